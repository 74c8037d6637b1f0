import PyProof.Rows.All
import Wide.All
import OpenK.AllK
import Wide.FinOn
import Lean
import PyProof.EqAt
import PyProof.EqKinds
import PyProof.TupleCall
import PyProof.NeKinds
import PyProof.ReprRoads
import PyProof.ReprLen
import KE.KRevIter
import PyProof.StrWalks
import PyProof.Rows.SetFrom
import PyProof.WalksMore
import KE.KIntText
import PyProof.StrLawsTight
import PyProof.EnumMake
import PyProof.WalkInts
import KE.KRevSl
import PyProof.StrCalls
import PyProof.Rows.StrFit
import KE.KDictOf
import PyProof.AttrMissHeap
import PySem.Challenge.RW_stationrow_k31_first_faults
set_option Elab.async false
set_option linter.all false
set_option maxRecDepth 100000
namespace L2
open PySem PySem.Spec PyProof.Rows
abbrev Key:=Sum Int Str
noncomputable def keyIs : Key -> Value -> Bool
 | .inl k,v => Value.isInt k v
 | .inr x,v => Value.isStrOf x v
noncomputable def keyH (w : World) : Key -> Int
 | .inl k => hashInt k
 | .inr x => hashStr w x
theorem keyIs_shape : ∀ {k : Key} {v : Value},keyIs k v = true -> (∃ i t,k = Sum.inl i /\ v = Value.int i t) \/ (∃ x t,k = Sum.inr x /\ v = Value.str x t)
 | .inl i,v,h => by
  obtain ⟨t,e⟩:=Value.isInt_shape (k:=i) (v:=v) h
  exact .inl ⟨i,t,rfl,e⟩
 | .inr x,v,h => by
  obtain ⟨t,e⟩:=Value.isStrOf_shape (x:=x) (v:=v) h
  exact .inr ⟨x,t,rfl,e⟩
theorem keyIs_int (i : Int) (t : Tok) : keyIs (.inl i) (.int i t) = true:=by simp [keyIs,Value.isInt]
theorem keyIs_str (x : Str) (t : Tok) : keyIs (.inr x) (.str x t) = true:=by simp [keyIs,Value.isStrOf]
theorem key_ll (a b : Int) : decide ((Sum.inl a : Key) = Sum.inl b) = (a == b):=by
 by_cases e : a = b
 ·
  subst e; simp
 ·
  have h : ¬ (Sum.inl a : Key) = Sum.inl b:=fun q => e (Sum.inl.inj q)
  rw [decide_eq_false h]
  exact (beq_eq_false_iff_ne.mpr e).symm
theorem key_rr (a b : Str) : decide ((Sum.inr a : Key) = Sum.inr b) = decide (a = b):=by
 by_cases e : a = b
 ·
  subst e; simp
 ·
  have h : ¬ (Sum.inr a : Key) = Sum.inr b:=fun q => e (Sum.inr.inj q)
  rw [decide_eq_false h,decide_eq_false e]
theorem key_lr (a : Int) (b : Str) : decide ((Sum.inl a : Key) = Sum.inr b) = false:=decide_eq_false (fun q => nomatch q)
theorem key_rl (a : Str) (b : Int) : decide ((Sum.inr a : Key) = Sum.inl b) = false:=decide_eq_false (fun q => nomatch q)
noncomputable def mixKind (prog : Program) (w : World) : PySem.KeyKind prog w Key where
 is:=keyIs
 hash:=keyH w
 inj:=fun v a b ha hb => by
  rcases keyIs_shape ha with ⟨i,t,rfl,rfl⟩ | ⟨x,t,rfl,rfl⟩
  ·
   rcases keyIs_shape hb with ⟨j,u,rfl,e⟩ | ⟨y,u,rfl,e⟩
   ·
    injection e with e1 _; rw [e1]
   ·
    exact nomatch e
  ·
   rcases keyIs_shape hb with ⟨j,u,rfl,e⟩ | ⟨y,u,rfl,e⟩
   ·
    exact nomatch e
   ·
    injection e with e1 _; rw [e1]
 byValue:=fun k v h => by
  rcases keyIs_shape h with ⟨i,t,rfl,rfl⟩ | ⟨x,t,rfl,rfl⟩ <;> rfl
 pyHash:=fun hv h => by
  rcases keyIs_shape hv with ⟨i,t,rfl,rfl⟩ | ⟨x,t,rfl,rfl⟩
  ·
   exact wpAny_pyHash_int h
  ·
   exact wpAny_pyHash_str h
 eqBool:=fun hu hv h => by
  rcases keyIs_shape hu with ⟨i,t,rfl,rfl⟩ | ⟨x,t,rfl,rfl⟩
  ·
   rcases keyIs_shape hv with ⟨j,u,rfl,rfl⟩ | ⟨y,u,rfl,rfl⟩
   ·
    rw [key_ll] at h; exact wpAny_eqBool_int h
   ·
    rw [key_lr] at h; exact SeqAt.EqAt.int_str i t y u _ _ _ _ h
  ·
   rcases keyIs_shape hv with ⟨j,u,rfl,rfl⟩ | ⟨y,u,rfl,rfl⟩
   ·
    rw [key_rl] at h; exact SeqAt.EqAt.str_int x t j u _ _ _ _ h
   ·
    rw [key_rr] at h; exact wpAny_eqBool_str h
 «strs»:=fun k x t v h => by
  rcases keyIs_shape h with ⟨i,u,rfl,e⟩ | ⟨y,u,rfl,e⟩
  ·
   exact nomatch e
  ·
   injection e with e1 _
   subst e1
   cases v <;> rfl
theorem mixKind_int (prog : Program) (w : World) (i : Int) (t : Tok) : (mixKind prog w).is (.inl i) (.int i t) = true:=keyIs_int i t
theorem mixKind_str (prog : Program) (w : World) (x : Str) (t : Tok) : (mixKind prog w).is (.inr x) (.str x t) = true:=keyIs_str x t
end L2
namespace L2
open PySem PySem.Spec PyProof.Rows
inductive V where
 | non | bl (b : Bool) | int (i : Int) | str (x : Str) | byt (b : Array UInt8) | flt (b : UInt64) | ref (a : Addr) | ty (n : String)
 deriving DecidableEq
def RelV : V -> Value -> Prop
 | .non,u => u = Value.none
 | .bl b,u => u = Value.bool b
 | .int i,u => ∃ t,u = Value.int i t
 | .str x,u => ∃ t,u = Value.str x t
 | .byt b,u => ∃ t,u = Value.bytes b t
 | .flt b,u => ∃ t,u = Value.float b t
 | .ref a,u => u = Value.ref a
 | .ty n,u => u = Value.type n
abbrev Vals : List V -> List Value -> Prop:=Paired RelV
theorem Vals.length {xs : List V} {us : List Value} (r : Vals xs us) : xs.length = us.length:=Paired.length r
theorem Vals.get : ∀ {xs : List V} {us : List Value} {i : Nat} {x : V},Vals xs us -> xs[i]? = some x -> ∃ u,us[i]? = some u /\ RelV x u
 | _,_,_,_,.nil,e => by simp at e
 | _,_,0,_,.cons r _,e => by simp at e; subst e; exact ⟨_,rfl,r⟩
 | _,_,i + 1,x,.cons _ t,e => by
  obtain ⟨u,h1,h2⟩:=Vals.get (i:=i) (x:=x) t (by simpa using e)
  exact ⟨u,by simpa using h1,h2⟩
theorem Vals.set {x : V} {u : Value} (r : RelV x u) : ∀ {xs : List V} {us : List Value} (i : Nat),Vals xs us -> Vals (xs.set i x) (us.set i u)
 | _,_,_,.nil => .nil
 | _,_,0,.cons _ t => .cons r t
 | _,_,i + 1,.cons q t => .cons q (Vals.set r i t)
theorem Vals.append : ∀ {xs ys : List V} {us ws : List Value},Vals xs us -> Vals ys ws -> Vals (xs ++ ys) (us ++ ws)
 | _,_,_,_,.nil,s => s
 | _,_,_,_,.cons r t,s => .cons r (Vals.append t s)
theorem Vals.take : ∀ {xs : List V} {us : List Value} (n : Nat),Vals xs us -> Vals (xs.take n) (us.take n)
 | _,_,0,_ => .nil
 | _,_,_ + 1,.nil => .nil
 | _,_,n + 1,.cons r t => .cons r (Vals.take n t)
theorem Vals.drop : ∀ {xs : List V} {us : List Value} (n : Nat),Vals xs us -> Vals (xs.drop n) (us.drop n)
 | _,_,0,r => r
 | _,_,_ + 1,.nil => .nil
 | _,_,n + 1,.cons _ t => Vals.drop n t
def RelO : Option V -> Option Value -> Prop
 | some v,some u => RelV v u
 | none,none => True
 | _,_ => False
def KV {κ : Type} : List (κ × V) -> List (κ × Value) -> Prop:=Paired fun (p : κ × V) (q : κ × Value) => p.1 = q.1 /\ RelV p.2 q.2
noncomputable def kV : Key -> V
 | .inl i => .int i
 | .inr x => .str x
inductive HO where
 | lst (xs : List V)
 | tup (xs : List V)
 | dK (kvs : List (Key × V)) | dT (kvs : List (List Key × V))
 | set (S : Int -> Bool) (n : Nat)
 | ins (C dx : Addr) (fs : List (Str × V))
 | own (x : Addr)
 | xd (fs : List (Str × V))
 | met (f x : Addr)
 | rng (lo hi : Int)
 | frz (o : Obj) (u : HO)
 | tbl (ps : Array Value)
 | ext (φ : Heap -> Prop)
abbrev Hp:=Addr -> Option HO
noncomputable def upd (H : Hp) (a : Addr) (o : HO) : Hp:=fun b => if b = a then some o else H b
theorem upd_same {H : Hp} {a : Addr} {o : HO} : upd H a o a = some o:=by unfold upd; rw [if_pos rfl]
theorem upd_ne {H : Hp} {a b : Addr} {o : HO} (h : b ≠ a) : upd H a o b = H b:=by unfold upd; rw [if_neg h]
theorem ne_of {H : Hp} {a b : Addr} {o u : HO} (h : H a = some o) (h' : H b = some u) (d : o ≠ u) : a ≠ b:=by
 intro e; subst e; rw [h] at h'; exact d (Option.some.inj h')
theorem ne_of_none {H : Hp} {a b : Addr} {o : HO} (h : H a = some o) (h' : H b = none) : a ≠ b:=by
 intro e; subst e; rw [h] at h'; cases h'
def Tup0 (h : Heap) (a : Addr) (items : Array Value) : Prop:=∃ o,h.get? a = some o /\ o.cls = .type "tuple" /\ ∃ n,o.data = .seq items n /\ o.dict = none
theorem Tup0.is {h : Heap} {a : Addr} {items : Array Value} (x : Tup0 h a items) : IsTup h a items:=by
 obtain ⟨o,ho,hc,n,hd,_⟩:=x
 exact ⟨o,ho,hc,n,hd⟩
theorem Tup0.new (h : Heap) (items : Array Value) : Tup0 (h.push { cls:=.type "tuple",data:=.seq items }) h.objs.size items:=⟨_,Heap.get?_push_size _ rfl,rfl,_,rfl,rfl⟩
section
variable (P : Program) (w : World)
def ObjOk (H : Hp) (h : Heap) (a : Addr) : HO -> Prop
 | .lst xs => xs.length <= sizeLine /\ ∃ (its : List Value) (n : Nat),Vals xs its /\ h.get? a = some { cls:=.type "list",data:=.seq its.toArray n }
 | .tup xs => xs.length <= sizeLine /\ ∃ its : List Value,Vals xs its /\ Tup0 h a its.toArray
 | .dK kvs => kvs.length <= sizeLine /\ (a == sysModules) = false /\ ∃ vs,KV kvs vs /\ h.DictOf (mixKind P w) a vs
 | .dT kvs => kvs.length <= sizeLine /\ (a == sysModules) = false /\ ∃ xs : List (List Key × Addr × Value),
   Paired (fun (p : List Key × V) (q : List Key × Addr × Value) => p.1 = q.1 /\ H q.2.1 = some (.tup (p.1.map kV)) /\ RelV p.2 q.2.2) kvs xs /\
   ∃ o es ep,h.get? a = some o /\ o.ExactDict /\ o.data = .dict es ep /\ es.toList = xs.map (entryOfKey (tupleKind (mixKind P w))) /\ (xs.map (·.1)).Nodup
 | .set S n => h.SetOf (intKind P w) a S n
 | .ins C dx fs => H dx = some (.own a) /\ fs.length <= 1000 /\ dx ≠ a /\ h.get? a = some (PySem.W.instObj C dx) /\
   ∃ mA,h.Ns1 dx mA /\ (∀ f,RelO (fs.lookup f) (mA f)) /\ PySem.Within mA (fs.map (·.1))
 | .own _ => ∃ o,h.get? a = some o
 | .xd fs => ∃ mA,h.Ns1 a mA /\ ∀ f,RelO (fs.lookup f) (mA f)
 | .rng lo hi => ∃ t u v,h.get? a = some { cls:=.type "range",data:=.fields #[.int lo t,.int hi u,.int 1 v] }
 | .frz o u => h.get? a = some o /\ ObjOk H h a u
 | .tbl ps => h.get? a = some { cls:=.none,data:=.fields ps }
 | .met f x => h.get? a = some (PySem.W.methodObj (.ref f) (.ref x))
 | .ext φ => φ h /\ (∃ o,h.get? a = some o) /\ ∀ h1 h2 : Heap,φ h1 -> (∀ o,h1.get? a = some o -> h2.get? a = some o) -> φ h2
def HOk (H : Hp) (h : Heap) : Prop:=∀ a o,H a = some o -> ObjOk P w H h a o
end
section
variable {P : Program} {w : World} {H H' : Hp} {h h' : Heap} {a : Addr} {o : HO}
theorem ObjOk.lt (x : ObjOk P w H h a o) : a < h.objs.size:=by
 cases o with
 | lst xs => obtain ⟨_,_,_,_,e⟩:=x; exact Heap.lt_size e
 | tup xs => obtain ⟨_,_,_,p⟩:=x; exact p.is.lt
 | dK kvs => obtain ⟨_,_,_,_,o,_,_,e,_⟩:=x; exact Heap.lt_size e
 | dT kvs => obtain ⟨_,_,_,_,o,_,_,e,_⟩:=x; exact Heap.lt_size e
 | set S n => obtain ⟨o,_,_,_,e,_⟩:=x; exact Heap.lt_size e
 | ins C dx fs => obtain ⟨_,_,_,e,_⟩:=x; exact Heap.lt_size e
 | own y => obtain ⟨_,e⟩:=x; exact Heap.lt_size e
 | xd fs => obtain ⟨_,⟨_,_,_,e,_⟩,_⟩:=x; exact Heap.lt_size e
 | rng lo hi => obtain ⟨_,_,_,e⟩:=x; exact Heap.lt_size e
 | frz ob u => obtain ⟨e,_⟩:=x; exact Heap.lt_size e
 | tbl ps => exact Heap.lt_size (show h.get? a = some _ from x)
 | met f y => exact Heap.lt_size (show h.get? a = some _ from x)
 | ext φ => obtain ⟨_,⟨_,e⟩,_⟩:=x; exact Heap.lt_size e
theorem Paired.mapP {α β : Type} {F G : α -> β -> Prop} : ∀ {l₁ : List α} {l₂ : List β},Paired F l₁ l₂ -> (∀ a b,F a b -> G a b) -> Paired G l₁ l₂
 | _,_,.nil,_ => .nil
 | _,_,.cons r t,f => .cons (f _ _ r) (Paired.mapP t f)
theorem ObjOk.stay (x : ObjOk P w H h a o) (k : ∀ b u,(b = a \/ H b = some (.own a)) -> h.get? b = some u -> h'.get? b = some u)
  (ho : ∀ b,H b = some (.own a) -> H' b = some (.own a)) (ht : ∀ b xs,H b = some (.tup xs) -> H' b = some (.tup xs)) : ObjOk P w H' h' a o:=by
 induction o with
 | lst xs => obtain ⟨z,its,n,r,e⟩:=x; exact ⟨z,its,n,r,k _ _ (.inl rfl) e⟩
 | tup xs => obtain ⟨z,its,r,ob,e,c⟩:=x; exact ⟨z,its,r,ob,k _ _ (.inl rfl) e,c⟩
 | dK kvs => obtain ⟨z,y,vs,r,ob,es,ep,e,c⟩:=x; exact ⟨z,y,vs,r,ob,es,ep,k _ _ (.inl rfl) e,c⟩
 | dT kvs =>
  obtain ⟨z,y,xs,r,ob,es,ep,e,c⟩:=x
  exact ⟨z,y,xs,Paired.mapP r fun p q z => ⟨z.1,ht _ _ z.2.1,z.2.2⟩,ob,es,ep,k _ _ (.inl rfl) e,c⟩
 | set S n => obtain ⟨ob,es,ep,t,e,c⟩:=x; exact ⟨ob,es,ep,t,k _ _ (.inl rfl) e,c⟩
 | ins C dx fs =>
  obtain ⟨d,z,ne,e,mA,⟨od,es,ep,e2,c⟩,r⟩:=x
  exact ⟨ho _ d,z,ne,k _ _ (.inl rfl) e,mA,⟨od,es,ep,k _ _ (.inr d) e2,c⟩,r⟩
 | own y => obtain ⟨ob,e⟩:=x; exact ⟨ob,k _ _ (.inl rfl) e⟩
 | xd fs => obtain ⟨mA,⟨od,es,ep,e,c⟩,r⟩:=x; exact ⟨mA,⟨od,es,ep,k _ _ (.inl rfl) e,c⟩,r⟩
 | rng lo hi => obtain ⟨t,u,v,e⟩:=x; exact ⟨t,u,v,k _ _ (.inl rfl) e⟩
 | frz ob u ih => obtain ⟨e,q⟩:=x; exact ⟨k _ _ (.inl rfl) e,ih q⟩
 | tbl ps =>
  have e : h.get? a = some { cls:=.none,data:=.fields ps }:=x
  show h'.get? a = some { cls:=.none,data:=.fields ps }
  exact k a _ (.inl rfl) e
 | met f y =>
  have e : h.get? a = some (PySem.W.methodObj (.ref f) (.ref y)):=x
  show h'.get? a = some (PySem.W.methodObj (.ref f) (.ref y))
  exact k a _ (.inl rfl) e
 | ext φ => obtain ⟨p,⟨o,e⟩,st⟩:=x; exact ⟨st _ _ p fun o q => k _ _ (.inl rfl) q,⟨o,k _ _ (.inl rfl) e⟩,st⟩
theorem HOk.lt (x : HOk P w H h) (e : H a = some o) : a < h.objs.size:=(x a o e).lt
theorem HOk.fresh (x : HOk P w H h) (e : h.objs.size <= a) : H a = none:=by
 cases q : H a with
 | none => rfl
 | some u => exact absurd (Nat.lt_of_lt_of_le (x.lt q) e) (Nat.lt_irrefl _)
theorem HOk.kept (x : HOk P w H h) (k : ∀ b u,h.get? b = some u -> h'.get? b = some u) : HOk P w H h':=fun a o e =>
 (x a o e).stay (fun b u _ q => k b u q) (fun _ q => q) fun _ _ q => q
theorem HOk.laid (x : HOk P w H h) (k : ∀ b u,h.get? b = some u -> h'.get? b = some u) (hp : h.objs.size <= a) (new : ObjOk P w (upd H a o) h' a o) : HOk P w (upd H a o) h':=fun b u e => by
 have hn:=x.fresh hp
 by_cases hb : b = a
 ·
  subst hb; rw [upd_same] at e; cases e; exact new
 ·
  rw [upd_ne hb] at e
  exact (x b u e).stay (fun c v _ q => k c v q) (fun c q => by rw [upd_ne (ne_of_none q hn)]; exact q) fun c xs q => by rw [upd_ne (ne_of_none q hn)]; exact q
end
def Rd (H : Hp) (a : Addr) (u : HO) : Prop:=H a = some u \/ ∃ o,H a = some (.frz o u)
theorem Rd.of {H : Hp} {a : Addr} {u : HO} (h : H a = some u) : Rd H a u:=.inl h
theorem Rd.ok {P : Program} {w : World} {H : Hp} {h : Heap} {a : Addr} {u : HO} (r : Rd H a u) (x : HOk P w H h) : ObjOk P w H h a u:=by
 rcases r with r | ⟨o,r⟩
 ·
  exact x a u r
 ·
  obtain ⟨_,q⟩:=x a _ r
  exact q
def Mut : Option HO -> Prop
 | some (.lst _) => True
 | some (.dK _) => True
 | some (.dT _) => True
 | some (.set _ _) => True
 | some (.ins _ _ _) => True
 | some (.ext _) => True
 | _ => False
section
variable {P : Program} {w : World} {H : Hp} {h h' : Heap} {x e : Addr} {o' : HO}
theorem HOk.write (ok : HOk P w H h) (mu : Mut (H x)) (he : e = x \/ H e = some (.own x)) (k : ∀ b u,b ≠ e -> h.get? b = some u -> h'.get? b = some u) (heo : ∃ u,h'.get? e = some u)
  (new : ObjOk P w (upd H x o') h' x o') : HOk P w (upd H x o') h':=fun b u q => by
 have nown : ∀ c y,H c = some (.own y) -> c ≠ x:=fun c y r z => by subst z; rw [r] at mu; exact mu
 have ntup : ∀ c xs,H c = some (.tup xs) -> c ≠ x:=fun c xs r z => by subst z; rw [r] at mu; exact mu
 by_cases hb : b = x
 ·
  subst hb; rw [upd_same] at q; cases q; exact new
 ·
  rw [upd_ne hb] at q
  by_cases hbe : b = e
  ·
   have q' : H b = some (.own x):=by
    rcases he with z | z
    ·
     exact absurd (hbe.trans z) hb
    ·
     rw [hbe]; exact z
   rw [q] at q'; cases q'
   obtain ⟨v,hv⟩:=heo
   exact ⟨v,by rw [hbe]; exact hv⟩
  ·
   refine (ok b u q).stay (fun c v hc r => k c v ?_ r) (fun c r => by rw [upd_ne (nown c b r)]; exact r) fun c xs r => by rw [upd_ne (ntup c xs r)]; exact r
   rcases hc with rfl | hc
   ·
    exact hbe
   ·
    rintro rfl
    rcases he with z | z
    ·
     exact nown c b hc z
    ·
     rw [hc] at z; cases z; exact hb rfl
end
structure Un (fs ex : List Addr) (H H' : Hp) (h h' : Heap) : Prop where
 keep : ∀ b o,h.get? b = some o -> H b = none -> b ∉ fs -> b ∉ ex -> h'.get? b = some o
 slot : ∀ b o,h.get? b = some o -> H b = none -> b ∈ fs -> b ∉ ex -> ∃ sl,h'.get? b = some { o with slots:=sl }
 free : ∀ b o,h.get? b = some o -> H b = none -> b ∉ ex -> H' b = none
 there : ∀ b o,h.get? b = some o -> b ∉ ex -> ∃ o',h'.get? b = some o'
 tups : ∀ b xs,H b = some (.tup xs) -> H' b = some (.tup xs)
 frzs : ∀ b o u,H b = some (.frz o u) -> H' b = some (.frz o u)
 tbls : ∀ b ps,H b = some (.tbl ps) -> ∃ more,H' b = some (.tbl (ps ++ more))
section
variable {fs fs' ex ex' : List Addr} {H H1 H2 : Hp} {h h1 h2 h' : Heap} {a x e : Addr} {o : HO}
theorem Un.any (u : Un fs ex H H1 h h1) {b : Addr} {ob : Obj} (q : h.get? b = some ob) (n : H b = none) (hx : b ∉ ex) : ∃ sl,h1.get? b = some { ob with slots:=sl }:=by
 by_cases hb : b ∈ fs
 ·
  exact u.slot b ob q n hb hx
 ·
  exact ⟨ob.slots,u.keep b ob q n hb hx⟩
theorem Un.trans (a : Un fs ex H H1 h h1) (b : Un fs ex H1 H2 h1 h2) : Un fs ex H H2 h h2 where
 keep:=fun c ob q n hc hx => b.keep c ob (a.keep c ob q n hc hx) (a.free c ob q n hx) hc hx
 slot:=fun c ob q n hc hx => by
  obtain ⟨sl,e1⟩:=a.slot c ob q n hc hx
  obtain ⟨sl',e2⟩:=b.slot c _ e1 (a.free c ob q n hx) hc hx
  exact ⟨sl',e2⟩
 free:=fun c ob q n hx => by
  obtain ⟨o',e1⟩:=a.there c ob q hx
  exact b.free c o' e1 (a.free c ob q n hx) hx
 there:=fun c ob q hx => by
  obtain ⟨o',e1⟩:=a.there c ob q hx
  exact b.there c o' e1 hx
 tups:=fun c xs q => b.tups c xs (a.tups c xs q)
 frzs:=fun c ob xs q => b.frzs c ob xs (a.frzs c ob xs q)
 tbls:=fun c ps q => by
  obtain ⟨m1,e1⟩:=a.tbls c ps q
  obtain ⟨m2,e2⟩:=b.tbls c _ e1
  exact ⟨m1 ++ m2,by rw [e2,Array.append_assoc]⟩
theorem Un.kept (k : ∀ b u,h.get? b = some u -> h'.get? b = some u) : Un fs ex H H h h' :=
 ⟨fun b ob q _ _ _ => k b ob q,fun b ob q _ _ _ => ⟨ob.slots,k b ob q⟩,fun _ _ _ n _ => n,fun b ob q _ => ⟨ob,k b ob q⟩,fun _ _ q => q,fun _ _ _ q => q,fun _ ps q => ⟨#[],by rw [q]; simp⟩⟩
theorem Un.refl : Un fs ex H H h h:=Un.kept fun _ _ q => q
theorem Un.laid (k : ∀ b u,h.get? b = some u -> h'.get? b = some u) (hp : h.objs.size <= a) (hn : H a = none) : Un fs ex H (upd H a o) h h' where
 keep:=fun b u q _ _ _ => k b u q
 slot:=fun b u q _ _ _ => ⟨u.slots,k b u q⟩
 free:=fun b u q n _ => by rw [upd_ne (Nat.ne_of_lt (Nat.lt_of_lt_of_le (Heap.lt_size q) hp))]; exact n
 there:=fun b u q _ => ⟨u,k b u q⟩
 tups:=fun b xs q => by rw [upd_ne (ne_of_none q hn)]; exact q
 frzs:=fun b u xs q => by rw [upd_ne (ne_of_none q hn)]; exact q
 tbls:=fun b ps q => ⟨#[],by rw [upd_ne (ne_of_none q hn),q]; simp⟩
theorem Un.write (mu : Mut (H x)) (he : e = x \/ H e = some (.own x)) (k : ∀ b u,b ≠ e -> h.get? b = some u -> h'.get? b = some u) (heo : ∃ u,h'.get? e = some u) : Un fs ex H (upd H x o) h h':=by
 have hx : ∀ b,H b = none -> b ≠ x:=fun b n z => by subst z; rw [n] at mu; exact mu
 have hb : ∀ b,H b = none -> b ≠ e:=fun b n z => by
  subst z
  rcases he with r | r
  ·
   exact hx b n r
  ·
   rw [n] at r; cases r
 have hm : ∀ b u,H b = some u -> ¬ Mut (some u) -> b ≠ x:=fun b u q nm z => by subst z; rw [q] at mu; exact nm mu
 refine ⟨fun b u q n _ _ => k b u (hb b n) q,fun b u q n _ _ => ⟨u.slots,k b u (hb b n) q⟩,fun b u q n _ => by rw [upd_ne (hx b n)]; exact n,fun b u q _ => ?_,
  fun b xs q => by rw [upd_ne (hm b _ q fun z => z)]; exact q,fun b u xs q => by rw [upd_ne (hm b _ q fun z => z)]; exact q,fun b ps q => ⟨#[],by rw [upd_ne (hm b _ q fun z => z),q]; simp⟩⟩
 by_cases hbe : b = e
 ·
  subst hbe; exact heo
 ·
  exact ⟨u,k b u hbe q⟩
theorem Un.mono (u : Un fs ex H H1 h h1) (hs : ∀ b ∈ fs,b ∈ fs') (hx : ∀ b ∈ ex,b ∈ ex') : Un fs' ex' H H1 h h1 :=
 ⟨fun b ob q n hb he => u.keep b ob q n (fun z => hb (hs b z)) fun z => he (hx b z),fun _ _ q n _ he => u.any q n fun z => he (hx _ z),fun b ob q n he => u.free b ob q n fun z => he (hx b z),fun b ob q he => u.there b ob q fun z => he (hx b z),u.tups,u.frzs,u.tbls⟩
end
noncomputable def trk (h : Heap) (H : Hp) : List Addr:=(List.range h.objs.size).filter fun a => (H a).isSome
noncomputable def hidT (h : Heap) (H : Hp) : Heap:=PySem.W.hideAll h (trk h H)
theorem hidT_size (h : Heap) (H : Hp) : (hidT h H).objs.size = h.objs.size:=PySem.W.hideAll_size _ _
theorem hidT_get {h : Heap} {H : Hp} {b : Addr} {o : Obj} (e : h.get? b = some o) (n : H b = none) : (hidT h H).get? b = some o :=
 PySem.W.hideAll_get _ e fun hm => by
  have q : (H b).isSome = true:=(List.mem_filter.mp hm).2
  rw [n] at q; simp at q
theorem of_hidT {h : Heap} {H : Hp} {b : Addr} {o : Obj} (e : (hidT h H).get? b = some o) : h.get? b = some o /\ H b = none:=by
 have e' : h.get? b = some o:=PySem.W.of_hideAll (trk h H) e
 refine ⟨e',?_⟩
 cases q : H b with
 | none => rfl
 | some x =>
  have hm : b ∈ trk h H:=List.mem_filter.mpr ⟨List.mem_range.mpr (Heap.lt_size e'),by simp [q]⟩
  have z : (hidT h H).get? b = none:=PySem.W.hideAll_none (trk h H) hm
  rw [z] at e; cases e
noncomputable def allNews (g h : Heap) (L : Addr) : List (Addr × Obj):=(List.range h.objs.size).filterMap fun a => if a = L \/ (g.get? a).isSome = true then none else (h.get? a).map fun o => (a,o)
noncomputable def rest (g h : Heap) (L d : Addr) : List (Addr × Obj):=(allNews g h L).filter fun p => decide (p.1 ≠ d)
end L2
namespace L2
open PySem PySem.Spec PyProof.Rows
structure Mod (K : PySem.W.Frag) (mg : Str -> Option Value) (base : Heap) : Prop where
 kin : K.In base
 glob : base.Ns mainGlobals mg
 blt : ∃ mb,base.Ns builtinsNs mb /\ ∀ x : Str,x ≠ "__name__" -> mb x = bootBuiltins x
 nolimit : base.NoLimit
structure Cx where
 prog : Program
 w : World
 K : PySem.W.Frag
 mg : Str -> Option Value
 base : Heap
 A : Around
 N : List Str
 s₀ : Shared
 H₀ : Hp
 env : Env
 outer : List Env
 stack : List Env
 ex : List Addr
 fn : Str -> Bool
 calm : Bool
 pn : List (Addr × Obj)
 xe : Value -> Shared -> Prop
noncomputable def frs (l : List Env) : List Addr:=l.filterMap (·.frame)
noncomputable abbrev Cx.fs (X : Cx) : List Addr:=frs X.outer
def Vis (sc : Scope) (x : Str) : Prop:=sc.names.lookup x = some .local \/ sc.names.lookup x = some .cell \/ sc.names.lookup x = some .free
def Loc (sc : Scope) (x : Str) : Prop:=sc.names.lookup x = some .local \/ sc.names.lookup x = some .cell
def Look (env : Env) (h : Heap) (m : Str -> Option Value) (x : Str) (u : Value) : Prop :=
 (env.kindOf x = some .local /\ m x = some u) \/ ((env.kindOf x = some .cell \/ env.kindOf x = some .free) /\ ∃ c,env.cells.lookup x = some c /\ h.IsCell c (some u))
structure Cx.Ok (X : Cx) : Prop where
 mod : Mod X.K X.mg X.base
 kind : X.env.scope.kind = .function
 glob : X.env.globals = mainGlobals
 blt : X.env.builtins = builtinsNs
 above : X.s₀.heap.objs.size <= X.env.locals
 inj : ∀ x y c,X.env.cells.lookup x = some c -> X.env.cells.lookup y = some c -> x = y
 has : ∀ x,(X.env.kindOf x = some .cell \/ X.env.kindOf x = some .free) -> ∃ c,X.env.cells.lookup x = some c
 cab : ∀ x c,X.fn x = true -> X.env.cells.lookup x = some c -> X.s₀.heap.objs.size <= c
 hd : X.calm = true -> X.A.handled = none
 frames : X.A.frames = some X.stack
 stk : X.stack = X.outer \/ (X.stack = X.env :: X.outer /\ X.env.frame = some X.env.locals)
 exf : ∀ b ∈ X.ex,b ≠ X.env.locals /\ ∀ x c,X.env.cells.lookup x = some c -> c ≠ b
 bs : ∀ b o,X.base.get? b = some o -> X.s₀.heap.get? b = some o /\ X.H₀ b = none
 bsz : X.base.objs.size <= X.s₀.heap.objs.size
 noex : ∀ b o,X.base.get? b = some o -> b ∉ X.ex
 exfs : ∀ b ∈ X.ex,b ∉ X.fs
 funs : X.s₀.heap.FunFrames X.base X.outer
 frf : ∀ b ∈ X.fs,X.H₀ b = none
structure Inv (X : Cx) (pins : List (Addr × Obj)) (σ : List (Option V)) (H : Hp) (s : Shared) : Prop where
 ok : X.Ok
 os : s.os = X.s₀.os
 bare : AllBare s.gens
 base : Un X.fs X.ex X.H₀ H X.s₀.heap s.heap
 loc : ∃ m,s.heap.Ns X.env.locals m /\ ∀ (i : Nat) (x : Str) (v : V),X.N[i]? = some x -> σ[i]? = some (some v) -> Vis X.env.scope x -> ∃ u,RelV v u /\ Look X.env s.heap m x u
 cell : ∀ x c,X.env.cells.lookup x = some c -> ∃ v,s.heap.IsCell c v
 free : H X.env.locals = none
 freeC : ∀ x c,X.env.cells.lookup x = some c -> H c = none
 pin : ∀ p ∈ X.pn ++ pins,s.heap.get? p.1 = some p.2 /\ H p.1 = none /\ p.1 ≠ X.env.locals /\ p.1 ∉ X.fs /\ ∀ v,p.2.data ≠ .cell v
 hok : HOk X.prog X.w H s.heap
 len : σ.length = X.N.length
section
variable {X : Cx} {pins : List (Addr × Obj)} {σ : List (Option V)} {H H' : Hp} {s : Shared} {h' : Heap}
theorem Cx.Ok.nofr (ok : X.Ok) {b : Addr} {o : Obj} (e : X.base.get? b = some o) : b ∉ X.fs:=fun hb => by
 have:=(ok.funs.mem hb).1
 rw [e] at this; cases this
theorem Inv.bs (I : Inv X pins σ H s) : ∀ b o,X.base.get? b = some o -> s.heap.get? b = some o /\ H b = none:=fun b o e =>
 ⟨I.base.keep b o (I.ok.bs b o e).1 (I.ok.bs b o e).2 (I.ok.nofr e) (I.ok.noex b o e),I.base.free b o (I.ok.bs b o e).1 (I.ok.bs b o e).2 (I.ok.noex b o e)⟩
theorem Inv.bk (I : Inv X pins σ H s) : ∀ b o,X.base.get? b = some o -> s.heap.get? b = some o:=fun b o e => (I.bs b o e).1
theorem Inv.mod (I : Inv X pins σ H s) : Mod X.K X.mg X.base:=I.ok.mod
theorem Inv.kIn (I : Inv X pins σ H s) : X.K.In s.heap:=I.ok.mod.kin.keeps I.bk
theorem Inv.nolimit (I : Inv X pins σ H s) : s.heap.NoLimit:=I.ok.mod.nolimit.keeps I.bk
theorem Inv.lt (I : Inv X pins σ H s) : X.env.locals < s.heap.objs.size:=let ⟨_,hn,_⟩:=I.loc; hn.lt
theorem Inv.sz (I : Inv X pins σ H s) : X.s₀.heap.objs.size <= s.heap.objs.size:=Nat.le_trans I.ok.above (Nat.le_of_lt I.lt)
theorem Inv.nofs (I : Inv X pins σ H s) {a : Addr} (h : s.heap.objs.size <= a) : a ∉ X.fs:=fun hb => by
 obtain ⟨_,o,ho,_⟩:=I.ok.funs.mem hb
 exact absurd (Nat.lt_of_lt_of_le (Heap.lt_size ho) (Nat.le_trans I.sz h)) (Nat.lt_irrefl _)
theorem Inv.cne (I : Inv X pins σ H s) : ∀ x c,X.env.cells.lookup x = some c -> c ≠ X.env.locals:=fun x c e z => by
 obtain ⟨v,o,ho,hd⟩:=I.cell x c e
 obtain ⟨m,⟨o',es,ep,ho',hd',_⟩,_⟩:=I.loc
 rw [z,ho'] at ho; cases ho; rw [hd'] at hd; cases hd
theorem Inv.funs (I : Inv X pins σ H s) : s.heap.FunFrames X.base X.outer:=by
 have all : ∀ (l : List Env),(∀ b ∈ frs l,b ∈ X.fs) -> X.s₀.heap.FunFrames X.base l -> s.heap.FunFrames X.base l:=by
  intro l
  induction l with
  | nil => intro _ _; trivial
  | cons env r ih =>
   intro hs hl
   obtain ⟨hk,⟨L,o,hf,hn,ho,hd⟩,hr⟩:=hl
   have hL : L ∈ X.fs:=hs L (by unfold frs; rw [List.filterMap_cons,hf]; exact List.mem_cons_self)
   obtain ⟨sl,e⟩:=I.base.slot L o ho (I.ok.frf L hL) hL fun z => I.ok.exfs L z hL
   exact ⟨hk,⟨L,_,hf,hn,e,hd⟩,ih (fun b hb => hs b (by unfold frs; rw [List.filterMap_cons,hf]; exact List.mem_cons_of_mem _ hb)) hr⟩
 exact all X.outer (fun _ hb => hb) I.ok.funs
theorem Inv.stack (I : Inv X pins σ H s) : s.heap.FunFrames X.base X.stack:=by
 rcases I.ok.stk with e | ⟨e,hf⟩
 ·
  rw [e]; exact I.funs
 ·
  rw [e]
  obtain ⟨m,hn,_⟩:=I.loc
  refine .cons (by rw [I.ok.kind]; decide) hf hn ?_ I.funs
  exact Heap.get?_none_of_le (Nat.le_trans I.ok.bsz I.ok.above)
theorem Inv.stkSub (I : Inv X pins σ H s) : ∀ b ∈ frs X.stack,b ∈ X.env.locals :: X.fs:=fun b hb => by
 rcases I.ok.stk with e | ⟨e,hf⟩
 ·
  rw [e] at hb; exact List.mem_cons_of_mem _ hb
 ·
  rw [e] at hb
  unfold frs at hb
  rw [List.filterMap_cons,hf] at hb
  exact hb
theorem Inv.stkFree (I : Inv X pins σ H s) : ∀ b ∈ frs X.stack,H b = none:=fun b hb => by
 rcases List.mem_cons.mp (I.stkSub b hb) with e | hb
 ·
  rw [e]; exact I.free
 ·
  obtain ⟨_,o,ho,_⟩:=I.ok.funs.mem hb
  exact I.base.free b o ho (I.ok.frf b hb) fun z => I.ok.exfs b z hb
theorem Inv.step {g' : Array GenState} {t' : Nat} {d' : Drawn} {ch : List Addr} (I : Inv X pins σ H s)
  (hch : ∀ b ∈ ch,(b ∈ X.ex \/ X.s₀.heap.objs.size <= b) /\ b ≠ X.env.locals /\ (∀ x c,X.env.cells.lookup x = some c -> c ≠ b) /\ ∀ p ∈ X.pn ++ pins,p.1 ≠ b)
  (keep : ∀ b o,b ≠ X.env.locals -> b ∉ X.fs -> b ∉ ch -> s.heap.get? b = some o -> H b = none -> h'.get? b = some o)
  (slot : ∀ b o,b ≠ X.env.locals -> b ∈ X.fs -> b ∉ ch -> s.heap.get? b = some o -> H b = none -> ∃ sl,h'.get? b = some { o with slots:=sl }) (free : ∀ b o,b ∉ ch -> s.heap.get? b = some o -> H b = none -> H' b = none)
  (there : ∀ b o,b ∉ ch -> s.heap.get? b = some o -> ∃ o',h'.get? b = some o')
  (tups : ∀ b xs,H b = some (.tup xs) -> H' b = some (.tup xs)) (frzs : ∀ b o u,H b = some (.frz o u) -> H' b = some (.frz o u)) (tbls : ∀ b ps,H b = some (.tbl ps) -> ∃ more,H' b = some (.tbl (ps ++ more)))
  (ns : ∀ m,s.heap.Ns X.env.locals m -> h'.Ns X.env.locals m) (hok : HOk X.prog X.w H' h') (hg : AllBare g') :
  Inv X pins σ H' { s with heap:=h',gens:=g',drawn:=d',toks:=t' }:=by
 have neL : ∀ b o,X.s₀.heap.get? b = some o -> b ≠ X.env.locals:=fun b o e => Nat.ne_of_lt (Nat.lt_of_lt_of_le (Heap.lt_size e) I.ok.above)
 have neC : ∀ b o,X.s₀.heap.get? b = some o -> b ∉ X.ex -> b ∉ ch:=fun b o e hx hb => by
  rcases (hch b hb).1 with z | z
  ·
   exact hx z
  ·
   exact absurd (Nat.lt_of_lt_of_le (Heap.lt_size e) z) (Nat.lt_irrefl _)
 have cellK : ∀ x c,X.env.cells.lookup x = some c -> ∀ v,s.heap.IsCell c v -> h'.IsCell c v:=fun x c e v ⟨o,ho,hd⟩ => by
  have nch : c ∉ ch:=fun z => (hch c z).2.2.1 x c e rfl
  by_cases hc : c ∈ X.fs
  ·
   obtain ⟨sl,q⟩:=slot c o (I.cne x c e) hc nch ho (I.freeC x c e)
   exact ⟨_,q,hd⟩
  ·
   exact ⟨o,keep c o (I.cne x c e) hc nch ho (I.freeC x c e),hd⟩
 refine ⟨I.ok,I.os,hg,⟨fun b o e n hb hx => ?_,fun b o e n hb hx => ?_,fun b o e n hx => ?_,fun b o e hx => ?_,fun b xs e => tups b xs (I.base.tups b xs e),fun b o xs e => frzs b o xs (I.base.frzs b o xs e),fun b ps e => ?_⟩,?_,fun x c e => ?_,?_,fun x c e => ?_,fun p hp => ?_,hok,I.len⟩
 ·
  exact keep b o (neL b o e) hb (neC b o e hx) (I.base.keep b o e n hb hx) (I.base.free b o e n hx)
 ·
  obtain ⟨sl,e1⟩:=I.base.slot b o e n hb hx
  obtain ⟨sl',e2⟩:=slot b _ (neL b o e) hb (neC b o e hx) e1 (I.base.free b o e n hx)
  exact ⟨sl',e2⟩
 ·
  obtain ⟨o',e1⟩:=I.base.there b o e hx
  exact free b o' (neC b o e hx) e1 (I.base.free b o e n hx)
 ·
  obtain ⟨o',e1⟩:=I.base.there b o e hx
  exact there b o' (neC b o e hx) e1
 ·
  obtain ⟨m1,e1⟩:=I.base.tbls b ps e
  obtain ⟨m2,e2⟩:=tbls b _ e1
  exact ⟨m1 ++ m2,by rw [e2,Array.append_assoc]⟩
 ·
  obtain ⟨m,hn,hl⟩:=I.loc
  refine ⟨m,ns m hn,fun i x v e1 e2 e3 => ?_⟩
  obtain ⟨u,r,l⟩:=hl i x v e1 e2 e3
  refine ⟨u,r,?_⟩
  rcases l with l | ⟨k,c,e,z⟩
  ·
   exact .inl l
  ·
   exact .inr ⟨k,c,e,cellK x c e _ z⟩
 ·
  obtain ⟨v,z⟩:=I.cell x c e
  exact ⟨v,cellK x c e v z⟩
 ·
  obtain ⟨m,⟨o,_,_,ho,_⟩,_⟩:=I.loc
  exact free _ o (fun z => (hch _ z).2.1 rfl) ho I.free
 ·
  obtain ⟨v,o,ho,hd⟩:=I.cell x c e
  exact free c o (fun z => (hch c z).2.2.1 x c e rfl) ho (I.freeC x c e)
 ·
  obtain ⟨e,n,ne,nf,d⟩:=I.pin p hp
  have nch : p.1 ∉ ch:=fun z => (hch p.1 z).2.2.2 p hp rfl
  exact ⟨keep p.1 p.2 ne nf nch e n,free p.1 p.2 nch e n,ne,nf,d⟩
theorem Inv.un {t' : Nat} (I : Inv X pins σ H s) (u : Un X.fs [] H H' s.heap h') (hok : HOk X.prog X.w H' h') : Inv X pins σ H' { s with heap:=h',toks:=t' }:=by
 obtain ⟨m,⟨o,es,ep,ho,r⟩,_⟩:=id I.loc
 obtain ⟨sl,hL⟩:=u.any ho I.free (by simp)
 exact I.step (g':=s.gens) (d':=s.drawn) (ch:=[]) (fun _ z => nomatch z) (fun b o _ hb _ e n => u.keep b o e n hb (by simp)) (fun b o _ hb _ e n => u.slot b o e n hb (by simp)) (fun b o _ e n => u.free b o e n (by simp)) (fun b o _ e => u.there b o e (by simp)) u.tups u.frzs u.tbls (fun m' hm => by
  obtain ⟨o',es',ep',ho',r'⟩:=hm
  rw [ho] at ho'; cases ho'
  exact ⟨_,es',ep',hL,r'⟩) hok I.bare
theorem Inv.call {g' : Array GenState} {t' : Nat} {d' : Drawn} {ch : List Addr} (I : Inv X pins σ H s) (u : Un (frs X.stack) ch H H' s.heap h') (hok : HOk X.prog X.w H' h') (hg : AllBare g')
  (hch : ∀ b ∈ ch,(b ∈ X.ex \/ X.s₀.heap.objs.size <= b) /\ b ≠ X.env.locals /\ (∀ x c,X.env.cells.lookup x = some c -> c ≠ b) /\ ∀ p ∈ X.pn ++ pins,p.1 ≠ b) :
  Inv X pins σ H' { s with heap:=h',gens:=g',drawn:=d',toks:=t' }:=by
 obtain ⟨m,⟨o,es,ep,ho,r⟩,_⟩:=id I.loc
 obtain ⟨sl,hL⟩:=u.any ho I.free fun z => (hch _ z).2.1 rfl
 exact I.step (ch:=ch) hch (fun b o hL hb hc e n => u.keep b o e n (fun z => (List.mem_cons.mp (I.stkSub b z)).elim hL hb) hc) (fun b o _ _ hc e n => u.any e n hc) (fun b o hc e n => u.free b o e n hc) (fun b o hc e => u.there b o e hc) u.tups u.frzs u.tbls (fun m' hm => by
  obtain ⟨o',es',ep',ho',r'⟩:=hm
  rw [ho] at ho'; cases ho'
  exact ⟨_,es',ep',hL,r'⟩) hok hg
theorem Inv.turned {t' : Nat} {it : Addr} (I : Inv X pins σ H s) (k : ∀ b o,b ≠ it -> s.heap.get? b = some o -> h'.get? b = some o) (hn : H it = none) (hL : it ≠ X.env.locals)
  (h1 : it ∈ X.ex \/ X.s₀.heap.objs.size <= it) (h2 : ∀ x c,X.env.cells.lookup x = some c -> c ≠ it) (h3 : ∀ p ∈ X.pn ++ pins,p.1 ≠ it) : Inv X pins σ H { s with heap:=h',toks:=t' }:=by
 have nit : ∀ b u,H b = some u -> b ≠ it:=fun b u e z => by rw [z,hn] at e; cases e
 refine I.step (g':=s.gens) (d':=s.drawn) (ch:=[it]) (fun b hb => ?_) (fun b o _ _ hc e _ => k b o (fun z => hc (by simp [z])) e) (fun b o _ _ hc e _ => ⟨o.slots,k b o (fun z => hc (by simp [z])) e⟩) (fun _ _ _ _ n => n)
  (fun b o hc e => ⟨o,k b o (fun z => hc (by simp [z])) e⟩) (fun _ _ e => e) (fun _ _ _ e => e) (fun b ps e => ⟨#[],by rw [e]; simp⟩) (fun m hm => ?_) (fun b u e => ?_) I.bare
 ·
  have e : b = it:=by simpa using hb
  subst e
  exact ⟨h1,hL,h2,h3⟩
 ·
  obtain ⟨o,es,ep,ho,r⟩:=hm
  exact ⟨o,es,ep,k _ o (Ne.symm hL) ho,r⟩
 ·
  refine (I.hok b u e).stay (fun c v hc q => k c v ?_ q) (fun _ q => q) fun _ _ q => q
  rcases hc with z | z
  ·
   rw [z]; exact nit b u e
  ·
   exact nit c _ z
theorem Inv.tok (I : Inv X pins σ H s) (t : Nat) : Inv X pins σ H { s with toks:=t }:=I.un (h':=s.heap) (t':=t) Un.refl I.hok
theorem Inv.kept {t' : Nat} (I : Inv X pins σ H s) (k : ∀ b u,s.heap.get? b = some u -> h'.get? b = some u) : Inv X pins σ H { s with heap:=h',toks:=t' }:=I.un (Un.kept k) (I.hok.kept k)
theorem Inv.laid {a : Addr} {o : HO} {t' : Nat} (I : Inv X pins σ H s) (k : ∀ b u,s.heap.get? b = some u -> h'.get? b = some u) (hp : s.heap.objs.size <= a) (new : ObjOk X.prog X.w (upd H a o) h' a o) :
  Inv X pins σ (upd H a o) { s with heap:=h',toks:=t' }:=I.un (Un.laid k hp (I.hok.fresh hp)) (I.hok.laid k hp new)
theorem Inv.write {x e : Addr} {o : HO} {t' : Nat} (I : Inv X pins σ H s) (mu : Mut (H x)) (he : e = x \/ H e = some (.own x)) (k : ∀ b u,b ≠ e -> s.heap.get? b = some u -> h'.get? b = some u) (heo : ∃ u,h'.get? e = some u)
  (new : ObjOk X.prog X.w (upd H x o) h' x o) : Inv X pins σ (upd H x o) { s with heap:=h',toks:=t' }:=I.un (Un.write mu he k heo) (I.hok.write mu he k heo new)
theorem Inv.pins_of {pins' : List (Addr × Obj)} (I : Inv X pins σ H s) (h : ∀ p ∈ pins',s.heap.get? p.1 = some p.2 /\ H p.1 = none /\ p.1 ≠ X.env.locals /\ p.1 ∉ X.fs /\ ∀ v,p.2.data ≠ .cell v) : Inv X pins' σ H s :=
 ⟨I.ok,I.os,I.bare,I.base,I.loc,I.cell,I.free,I.freeC,fun p hp => (List.mem_append.mp hp).elim (fun z => I.pin p (List.mem_append_left _ z)) (h p),I.hok,I.len⟩
theorem nodup_ix {N : List Str} (hN : N.Nodup) {i j : Nat} {x : Str} (a : N[i]? = some x) (b : N[j]? = some x) : i = j:=by
 obtain ⟨h1,e1⟩:=List.getElem?_eq_some_iff.mp a
 obtain ⟨h2,e2⟩:=List.getElem?_eq_some_iff.mp b
 exact (List.getElem_inj hN).mp (e1.trans e2.symm)
theorem store_ok2 {M : Model} {A : Around} {E : Value -> Shared -> Prop} {i : Nat} {x : Str} {v : V} {u : Value} {Q : Unit -> Shared -> Prop} (I : Inv X pins σ H s) (hN : X.N.Nodup) (hi : X.N[i]? = some x) (hx : Loc X.env.scope x) (r : RelV v u)
  (h : ∀ s',Inv X pins (σ.set i (some v)) H s' -> (∃ a,Heap.SameBut a s.heap s'.heap /\ (a = X.env.locals \/ X.env.cells.lookup x = some a)) -> Q () s') (hf : X.fn x = true \/ X.env.scope.names.lookup x = some .local:=by first | exact .inl rfl | exact .inr rfl | assumption) : wpAny M A (storeName X.env x u) Q E s:=by
 obtain ⟨m,hn,hl⟩:=id I.loc
 have hcls : (X.env.scope.kind == .class || (X.env.scope.kind == .module && X.env.locals != X.env.globals)) = false:=by rw [I.ok.kind]; rfl
 have hiσ : i < σ.length:=by rw [I.len]; exact (List.getElem?_eq_some_iff.mp hi).1
 have cne:=I.cne
 have tracked : ∀ {a : Addr} {h' : Heap},(∃ o,s.heap.get? a = some o /\ H a = none) -> Heap.SameBut a s.heap h' -> HOk X.prog X.w H h':=fun {a h'} ha hs b ob e => by
  obtain ⟨_,_,hfree⟩:=ha
  refine (I.hok b ob e).stay (fun c w' hc q => (hs.2 c ?_).trans q) (fun _ q => q) fun _ _ q => q
  rintro rfl
  rcases hc with rfl | hc
  ·
   rw [hfree] at e; cases e
  ·
   rw [hfree] at hc; cases hc
 rcases hx with hk | hk
 ·
  refine wpAny_storeName_local hk hn (fun h' hn' hs => ?_) hcls
  obtain ⟨oL,_,_,hoL,_⟩:=id hn
  refine h _ ⟨I.ok,I.os,I.bare,⟨fun b o e n hb hx => ?_,fun b o e n hb hx => ?_,I.base.free,fun b o e hx => ?_,I.base.tups,I.base.frzs,I.base.tbls⟩,⟨_,hn',fun j y v' e1 e2 e3 => ?_⟩,fun y c e => ?_,I.free,I.freeC,fun p hp => ?_,tracked ⟨oL,hoL,I.free⟩ hs,by simpa using I.len⟩ ⟨_,hs,.inl rfl⟩
  ·
   exact (hs.2 b (Nat.ne_of_lt (Nat.lt_of_lt_of_le (Heap.lt_size e) I.ok.above))).trans (I.base.keep b o e n hb hx)
  ·
   obtain ⟨sl,e1⟩:=I.base.slot b o e n hb hx
   exact ⟨sl,(hs.2 b (Nat.ne_of_lt (Nat.lt_of_lt_of_le (Heap.lt_size e) I.ok.above))).trans e1⟩
  ·
   obtain ⟨o',e1⟩:=I.base.there b o e hx
   exact ⟨o',(hs.2 b (Nat.ne_of_lt (Nat.lt_of_lt_of_le (Heap.lt_size e) I.ok.above))).trans e1⟩
  ·
   by_cases hj : j = i
   ·
    subst hj
    rw [hi] at e1; cases e1
    rw [List.getElem?_set_self hiσ] at e2
    cases e2
    exact ⟨u,r,.inl ⟨hk,by simp⟩⟩
   ·
    rw [List.getElem?_set_ne (Ne.symm hj)] at e2
    obtain ⟨u',r',q⟩:=hl j y v' e1 e2 e3
    refine ⟨u',r',?_⟩
    rcases q with ⟨k,e⟩ | ⟨k,c,e,z⟩
    ·
     refine .inl ⟨k,?_⟩
     have : y ≠ x:=fun e => hj (nodup_ix hN e1 (e ▸ hi))
     simp [this,e]
    ·
     exact .inr ⟨k,c,e,z.sameBut hs (cne y c e)⟩
  ·
   obtain ⟨w',z⟩:=I.cell y c e
   exact ⟨w',z.sameBut hs (cne y c e)⟩
  ·
   obtain ⟨e,n,ne,nf,d⟩:=I.pin p hp
   exact ⟨(hs.2 p.1 ne).trans e,n,ne,nf,d⟩
 ·
  have hfn : X.fn x = true:=by
   rcases hf with z | z
   ·
    exact z
   ·
    rw [z] at hk; cases hk
  obtain ⟨c,hc⟩:=I.ok.has x (.inl hk)
  obtain ⟨w',z⟩:=I.cell x c hc
  refine wpAny_storeName_cell I.ok.kind hk hc z (fun h' hc' hs => ?_)
  obtain ⟨oc,hoc,hocd⟩:=id z
  refine h { s with heap:=h' } ⟨I.ok,I.os,I.bare,⟨fun b o e n hb hx => ?_,fun b o e n hb hx => ?_,I.base.free,fun b o e hx => ?_,I.base.tups,I.base.frzs,I.base.tbls⟩,⟨m,hn.sameBut hs (Ne.symm (cne x c hc)),fun j y v' e1 e2 e3 => ?_⟩,fun y c' e => ?_,I.free,I.freeC,fun p hp => ?_,tracked ⟨oc,hoc,I.freeC x c hc⟩ hs,by simpa using I.len⟩ ⟨c,hs,.inr hc⟩
  ·
   exact (hs.2 b (Nat.ne_of_lt (Nat.lt_of_lt_of_le (Heap.lt_size e) (I.ok.cab x c hfn hc)))).trans (I.base.keep b o e n hb hx)
  ·
   obtain ⟨sl,e1⟩:=I.base.slot b o e n hb hx
   exact ⟨sl,(hs.2 b (Nat.ne_of_lt (Nat.lt_of_lt_of_le (Heap.lt_size e) (I.ok.cab x c hfn hc)))).trans e1⟩
  ·
   obtain ⟨o',e1⟩:=I.base.there b o e hx
   exact ⟨o',(hs.2 b (Nat.ne_of_lt (Nat.lt_of_lt_of_le (Heap.lt_size e) (I.ok.cab x c hfn hc)))).trans e1⟩
  ·
   by_cases hj : j = i
   ·
    subst hj
    rw [hi] at e1; cases e1
    rw [List.getElem?_set_self hiσ] at e2
    cases e2
    exact ⟨u,r,.inr ⟨.inl hk,c,hc,hc'⟩⟩
   ·
    rw [List.getElem?_set_ne (Ne.symm hj)] at e2
    obtain ⟨u',r',q⟩:=hl j y v' e1 e2 e3
    refine ⟨u',r',?_⟩
    rcases q with q | ⟨k,c',e,z'⟩
    ·
     exact .inl q
    ·
     refine .inr ⟨k,c',e,z'.sameBut hs ?_⟩
     rintro rfl
     exact hj (nodup_ix hN e1 (I.ok.inj _ _ _ e hc ▸ hi))
  ·
   by_cases hcc : c' = c
   ·
    subst hcc; exact ⟨_,hc'⟩
   ·
    obtain ⟨w2,z2⟩:=I.cell y c' e
    exact ⟨w2,z2.sameBut hs hcc⟩
  ·
   obtain ⟨e,n,ne,nf,d⟩:=I.pin p hp
   refine ⟨(hs.2 p.1 ?_).trans e,n,ne,nf,d⟩
   intro q
   rw [q,hoc] at e
   have q' : oc = p.2:=Option.some.inj e
   exact d w' (by rw [<- q']; exact hocd)
theorem store_ok {M : Model} {A : Around} {E : Value -> Shared -> Prop} {i : Nat} {x : Str} {v : V} {u : Value} {Q : Unit -> Shared -> Prop} (I : Inv X pins σ H s) (hN : X.N.Nodup) (hi : X.N[i]? = some x) (hx : Loc X.env.scope x) (r : RelV v u)
  (h : ∀ s',Inv X pins (σ.set i (some v)) H s' -> Q () s') (hf : X.fn x = true \/ X.env.scope.names.lookup x = some .local:=by first | exact .inl rfl | exact .inr rfl | assumption) : wpAny M A (storeName X.env x u) Q E s :=
 store_ok2 I hN hi hx r (fun s' I' _ => h s' I') hf
theorem Inv.call' {s' : Shared} {ch : List Addr} (I : Inv X pins σ H s) (ho : s'.os = s.os) (u : Un (frs X.stack) ch H H' s.heap s'.heap) (hok : HOk X.prog X.w H' s'.heap) (hg : AllBare s'.gens)
  (hch : ∀ b ∈ ch,(b ∈ X.ex \/ X.s₀.heap.objs.size <= b) /\ b ≠ X.env.locals /\ (∀ x c,X.env.cells.lookup x = some c -> c ≠ b) /\ ∀ p ∈ X.pn ++ pins,p.1 ≠ b) : Inv X pins σ H' s':=by
 obtain ⟨h',g',d',t',o'⟩:=s'
 have e : o' = s.os:=ho
 subst e
 exact I.call (g':=g') (t':=t') (d':=d') u hok hg hch
end
abbrev XK:=Value -> Option Addr -> Hp -> Prop
abbrev St:=List (Option V)
abbrev VK:=V -> Hp -> Prop
abbrev TE:=St -> Hp -> VK -> Prop
abbrev TT:=St -> Hp -> (Bool -> Hp -> Prop) -> Prop
abbrev TA:=St -> Hp -> (List V -> Hp -> Prop) -> Prop
structure Ends where
 nx : St -> Hp -> Prop
 rt : VK
 bk : St -> Hp -> Prop:=fun _ _ => False
 ct : St -> Hp -> Prop:=fun _ _ => False
abbrev TS:=Ends -> St -> Hp -> Prop
def EP (X : Cx) (pins : List (Addr × Obj)) (σ : St) (Q : VK) (u : Value) (s' : Shared) : Prop:=∃ v H',Inv X pins σ H' s' /\ RelV v u /\ Q v H'
def TP (X : Cx) (pins : List (Addr × Obj)) (σ : St) (Q : Bool -> Hp -> Prop) (b : Bool) (s' : Shared) : Prop:=∃ H',Inv X pins σ H' s' /\ Q b H'
def AP (X : Cx) (pins : List (Addr × Obj)) (σ : St) (Q : List V -> Hp -> Prop) (us : List Value) (s' : Shared) : Prop:=∃ vs H',Inv X pins σ H' s' /\ Vals vs us /\ Q vs H'
def SP (X : Cx) (pins : List (Addr × Obj)) (D : Ends) (f : Flow) (s' : Shared) : Prop :=
 match f with
 | .next => ∃ σ' H',Inv X pins σ' H' s' /\ D.nx σ' H'
 | .brk => ∃ σ' H',Inv X pins σ' H' s' /\ D.bk σ' H'
 | .cont => ∃ σ' H',Inv X pins σ' H' s' /\ D.ct σ' H'
 | .ret u => ∃ v σ' H',Inv X pins σ' H' s' /\ RelV v u /\ D.rt v H'
def PE (X : Cx) (e : Expr) (t : TE) : Prop :=
 ∀ (pins : List (Addr × Obj)) (s : Shared) (σ : St) (H : Hp) (Q : VK),Inv X pins σ H s -> t σ H Q -> wpAny (model X.prog X.w) X.A (eval e X.env) (EP X pins σ Q) X.xe s
def PT (X : Cx) (e : Expr) (t : TT) : Prop :=
 ∀ (pins : List (Addr × Obj)) (s : Shared) (σ : St) (H : Hp) (Q : Bool -> Hp -> Prop),Inv X pins σ H s -> t σ H Q -> wpAny (model X.prog X.w) X.A (isTrue e X.env (eval e X.env)) (TP X pins σ Q) X.xe s
def PW (X : Cx) (e : Expr) (t : TT) : Prop :=
 ∀ (whole : Sem Value) (pins : List (Addr × Obj)) (s : Shared) (σ : St) (H : Hp) (Q : Bool -> Hp -> Prop),Inv X pins σ H s -> t σ H Q -> wpAny (model X.prog X.w) X.A (isTrue e X.env whole) (TP X pins σ Q) X.xe s
theorem PW.pt {X : Cx} {e : Expr} {t : TT} (h : PW X e t) : PT X e t:=h _
def PA (X : Cx) (es : List Expr) (t : TA) : Prop :=
 ∀ (pos : Pos) (pins : List (Addr × Obj)) (s : Shared) (σ : St) (H : Hp) (Q : List V -> Hp -> Prop),Inv X pins σ H s -> t σ H Q -> wpAny (model X.prog X.w) X.A (spliced (backTo pos (starEach es X.env))) (AP X pins σ Q) X.xe s
def PS (X : Cx) (st : Stmt) (t : TS) : Prop :=
 ∀ (pins : List (Addr × Obj)) (s : Shared) (σ : St) (H : Hp) (D : Ends),Inv X pins σ H s -> t D σ H -> wpAny (model X.prog X.w) X.A (exec st X.env) (SP X pins D) X.xe s
def PSs (X : Cx) (st : List Stmt) (t : TS) : Prop :=
 ∀ (pins : List (Addr × Obj)) (s : Shared) (σ : St) (H : Hp) (D : Ends),Inv X pins σ H s -> t D σ H -> wpAny (model X.prog X.w) X.A (execs st X.env) (SP X pins D) X.xe s
theorem thn {α : Type} {t : Sem α} {Q Q' : α -> Shared -> Prop} {M : Model} {A : Around} {E : Value -> Shared -> Prop} {s : Shared} (h : wpAny M A t Q E s) (hQ : ∀ a s,Q a s -> Q' a s) : wpAny M A t Q' E s:=wpAny_mono h hQ fun _ _ x => x
end L2
namespace L2
open PySem PySem.Spec PyProof.Rows
section
variable {X : Cx}
def tVar (i : Nat) : TE:=fun σ H Q => ∃ v,σ[i]? = some (some v) /\ Q v H
def tC (v : V) : TE:=fun _ H Q => Q v H
theorem pe_var {i : Nat} {x : Str} {pos : Pos} (hN : X.N[i]? = some x) (hv : Vis X.env.scope x) (hd : (x == ("__debug__" : Str)) = false:=by decide) (hcd : (x == ("__classdict__" : Str)) = false:=by decide) : PE X (.Name x pos) (tVar i):=by
 intro pins s σ H Q I h
 obtain ⟨v,e,h⟩:=h
 obtain ⟨m,hn,hl⟩:=I.loc
 obtain ⟨u,r,l⟩:=hl i x v hN e hv
 have fin : EP X pins σ Q u s:=⟨v,H,I,r,h⟩
 rcases l with ⟨hk,hm⟩ | ⟨hk,c,hc,hcell⟩
 ·
  exact wpAny_Name (wpAny_loadName_local I.ok.kind hk hn hm fin) hd
 ·
  rcases hk with hk | hk
  ·
   exact wpAny_Name (wpAny_loadName_cell I.ok.kind hk hc hcell fin) hd
  ·
   exact wpAny_Name (wpAny_loadName_free I.ok.kind hk hc hcell fin hcd) hd
theorem pe_int {i j pos} : PE X (.Constant (.int i) j pos) (tC (.int i)):=fun _ _ _ H _ I h => wpAny_Constant_int ⟨.int i,H,I.tok _,⟨_,rfl⟩,h⟩
theorem pe_bl {b j pos} : PE X (.Constant (.bool b) j pos) (tC (.bl b)):=fun _ _ _ H _ I h => Constant_bool ⟨.bl b,H,I,rfl,h⟩
theorem pe_non {j pos} : PE X (.Constant .none j pos) (tC .non):=fun _ _ _ H _ I h => Constant_none ⟨.non,H,I,rfl,h⟩
theorem pe_str {x j pos} : PE X (.Constant (.str x) j pos) (tC (.str x)):=fun _ _ _ H _ I h => Calls.Constant_str ⟨.str x,H,I.tok _,⟨_,rfl⟩,h⟩
def Gl (X : Cx) (x : Str) : Prop:=X.env.kindOf x = some .globalImplicit
theorem ld_glob {E : Value -> Shared -> Prop} {pins : List (Addr × Obj)} {s : Shared} {σ : St} {H : Hp} {x : Str} {u : Value} {pos : Pos} {Q : Value -> Shared -> Prop} (I : Inv X pins σ H s) (hg : Gl X x) (hm : X.mg x = some u) (h : Q u s)
  (hd : (x == ("__debug__" : Str)) = false:=by decide) : wpAny (model X.prog X.w) X.A (eval (.Name x pos) X.env) Q E s :=
 Calls.Name_function_global I.ok.kind hg (Calls.loadGlobal_global (by rw [I.ok.glob]; exact I.mod.glob.keeps I.bk) hm h) hd
theorem ld_blt {E : Value -> Shared -> Prop} {pins : List (Addr × Obj)} {s : Shared} {σ : St} {H : Hp} {x : Str} {u : Value} {pos : Pos} {Q : Value -> Shared -> Prop} (I : Inv X pins σ H s) (hg : Gl X x) (hm : X.mg x = none) (hv : bootBuiltins x = some u) (h : Q u s)
  (hn : x ≠ "__name__":=by decide) (hd : (x == ("__debug__" : Str)) = false:=by decide) : wpAny (model X.prog X.w) X.A (eval (.Name x pos) X.env) Q E s:=by
 obtain ⟨mb,h1,h2⟩:=I.mod.blt
 exact Calls.Name_function_global I.ok.kind hg (Calls.loadGlobal_builtin (by rw [I.ok.glob]; exact I.mod.glob.keeps I.bk) hm (by rw [I.ok.blt]; exact h1.keeps I.bk) ((h2 x hn).trans hv) h) hd
theorem pe_glob {x : Str} {v : V} {u : Value} {pos : Pos} (hg : Gl X x) (hm : X.mg x = some u) (r : RelV v u) (hd : (x == ("__debug__" : Str)) = false:=by decide) : PE X (.Name x pos) (tC v) :=
 fun _ _ _ H _ I h => ld_glob I hg hm ⟨v,H,I,r,h⟩ hd
theorem pe_bltn {x : Str} {v : V} {u : Value} {pos : Pos} (hg : Gl X x) (hm : X.mg x = none) (hv : bootBuiltins x = some u) (r : RelV v u) (hn : x ≠ "__name__":=by decide) (hd : (x == ("__debug__" : Str)) = false:=by decide) : PE X (.Name x pos) (tC v) :=
 fun _ _ _ H _ I h => ld_blt I hg hm hv ⟨v,H,I,r,h⟩ hn hd
variable {a b : Expr} {ta tb : TE} {pos : Pos}
def PC (X : Cx) (op : CmpOp) (a b : Expr) (t : TE) : Prop :=
 ∀ (pins : List (Addr × Obj)) (s : Shared) (σ : St) (H : Hp) (Q : VK),Inv X pins σ H s -> t σ H Q ->
  wpAny (model X.prog X.w) X.A (eval a X.env) (fun v s₁ => wpAny (model X.prog X.w) X.A (eval b X.env) (fun u s₂ => wpAny (model X.prog X.w) X.A (compareOp op v u) (EP X pins σ Q) X.xe s₂) X.xe s₁) X.xe s
theorem nobehind (b : Expr) {op : CmpOp} (h : op ≠ .In) (h2 : op ≠ .NotIn) : behindInMarks op b = false:=by
 have e1 : (op == CmpOp.In) = false:=by cases op <;> first | rfl | exact absurd rfl h
 have e2 : (op == CmpOp.NotIn) = false:=by cases op <;> first | rfl | exact absurd rfl h2
 cases b <;> simp [behindInMarks,e1,e2]
def tB (t : TE) : TT:=fun σ H Q => t σ H fun x H1 => ∃ c,x = .bl c /\ Q c H1
theorem pt_cmp {op : CmpOp} {t : TE} (h : PC X op a b t) (h1 : behindInMarks op b = false:=by first | exact nobehind _ (by decide) (by decide) | rfl) : PT X (.Compare a [op] [b] pos) (tB t):=by
 intro pins s σ H Q I hw
 refine wpAny_isTrue_Compare1 (thn (h pins s σ H _ I hw) fun v s1 h1 => thn h1 fun u s2 h2 => thn h2 fun c s3 ⟨x,H1,I1,r1,q1⟩ => ?_) h1
 obtain ⟨d,rfl,q⟩:=q1
 cases r1
 exact wpAny_truthy_bool ⟨H1,I1,q⟩
theorem pt_val {e : Expr} {t : TE} (h : PE X e t) (he : ∀ whole,isTrue e X.env whole = (do let v <- whole; standAt e.pos; holding [v] (truthy v)):=by intro _; rfl) : PT X e (tB t):=by
 intro pins s σ H Q I hw
 refine isTrue_plain (thn (h pins s σ H _ I hw) fun v s1 ⟨x,H1,I1,r1,q1⟩ => ?_) (he _)
 obtain ⟨d,rfl,q⟩:=q1
 cases r1
 exact wpAny_truthy_bool ⟨H1,I1,q⟩
variable {tA tB' : TT} {rest : List Expr}
def tAnd (t u : TT) : TT:=fun σ H Q => t σ H fun c H1 => if c = true then u σ H1 Q else Q false H1
def tOr (t u : TT) : TT:=fun σ H Q => t σ H fun c H1 => if c = true then Q true H1 else u σ H1 Q
def tNot (t : TT) : TT:=fun σ H Q => t σ H fun c H1 => Q (!c) H1
theorem pw_and1 (ha : PT X a tA) : PW X (.BoolOp .And [a] pos) tA:=by
 intro wh pins s σ H Q I h
 refine isTrue_and (thn (ha pins s σ H Q I h) fun c s1 e => ?_)
 cases c with
 | true => exact isTrue_and_nil e
 | false => exact e
theorem pw_or1 (ha : PT X a tA) : PW X (.BoolOp .Or [a] pos) tA:=by
 intro wh pins s σ H Q I h
 refine isTrue_or (thn (ha pins s σ H Q I h) fun c s1 e => ?_)
 cases c with
 | false => exact isTrue_or_nil e
 | true => exact e
theorem pw_and (ha : PT X a tA) (hb : PW X (.BoolOp .And (b :: rest) pos) tB') : PW X (.BoolOp .And (a :: b :: rest) pos) (tAnd tA tB'):=by
 intro wh pins s σ H Q I h
 refine isTrue_and (thn (ha pins s σ H _ I h) fun c s1 ⟨H1,I1,q1⟩ => ?_)
 cases c with
 | true => exact hb wh pins s1 σ H1 Q I1 q1
 | false => exact ⟨H1,I1,q1⟩
theorem pw_or (ha : PT X a tA) (hb : PW X (.BoolOp .Or (b :: rest) pos) tB') : PW X (.BoolOp .Or (a :: b :: rest) pos) (tOr tA tB'):=by
 intro wh pins s σ H Q I h
 refine isTrue_or (thn (ha pins s σ H _ I h) fun c s1 ⟨H1,I1,q1⟩ => ?_)
 cases c with
 | true => exact ⟨H1,I1,q1⟩
 | false => exact hb wh pins s1 σ H1 Q I1 q1
theorem pt_not (ha : PT X a tA) : PT X (.UnaryOp .Not a pos) (tNot tA):=by
 intro pins s σ H Q I h
 exact isTrue_not (ha pins s σ H (fun c H1 => Q (!c) H1) I h)
def tAndV (ta tb : TE) : TE:=fun σ H Q => ta σ H fun x H1 => ∃ c,x = .bl c /\ if c = true then tb σ H1 Q else Q (.bl false) H1
def tOrV (ta tb : TE) : TE:=fun σ H Q => ta σ H fun x H1 => ∃ c,x = .bl c /\ if c = true then Q (.bl true) H1 else tb σ H1 Q
def tNotV (ta : TE) : TE:=fun σ H Q => ta σ H fun x H1 => ∃ c,x = .bl c /\ Q (.bl (!c)) H1
theorem pe_one {op} {t : TE} (h : PE X a t) : PE X (.BoolOp op [a] pos) t:=fun pins s σ H Q I hw => BoolOp_one (h pins s σ H Q I hw)
theorem pe_and (ha : PE X a ta) (hb : PE X (.BoolOp .And (b :: rest) pos) tb) : PE X (.BoolOp .And (a :: b :: rest) pos) (tAndV ta tb):=by
 intro pins s σ H Q I h
 refine BoolOp_and (thn (ha pins s σ H _ I h) fun v s1 ⟨x,H1,I1,r1,q1⟩ => ?_)
 obtain ⟨c,rfl,q1⟩:=q1
 cases r1
 refine wpAny_truthy_bool ?_
 cases c with
 | true => exact hb pins s1 σ H1 Q I1 q1
 | false => exact ⟨.bl false,H1,I1,rfl,q1⟩
theorem pe_or (ha : PE X a ta) (hb : PE X (.BoolOp .Or (b :: rest) pos) tb) : PE X (.BoolOp .Or (a :: b :: rest) pos) (tOrV ta tb):=by
 intro pins s σ H Q I h
 refine BoolOp_or (thn (ha pins s σ H _ I h) fun v s1 ⟨x,H1,I1,r1,q1⟩ => ?_)
 obtain ⟨c,rfl,q1⟩:=q1
 cases r1
 refine wpAny_truthy_bool ?_
 cases c with
 | false => exact hb pins s1 σ H1 Q I1 q1
 | true => exact ⟨.bl true,H1,I1,rfl,q1⟩
theorem pe_not (ha : PE X a ta) : PE X (.UnaryOp .Not a pos) (tNotV ta):=by
 intro pins s σ H Q I h
 refine UnaryOp_ (thn (ha pins s σ H _ I h) fun v s1 ⟨x,H1,I1,r1,q1⟩ => ?_)
 obtain ⟨c,rfl,q1⟩:=q1
 cases r1
 exact not_of (wpAny_truthy_bool ⟨.bl (!c),H1,I1,rfl,q1⟩)
end
end L2
namespace L2
open PySem PySem.Spec PyProof.Rows
def SqL (K : PySem.W.Frag) (H : Hp) (a : Addr) (xs : List V) : Prop :=
 Rd H a (.lst xs) \/
  ∃ (o : Obj) (its : Array Value) (n : Nat),K.lookup a = some o /\ o.cls = .type "list" /\ o.dict = none /\ o.data = .seq its n /\ its.size <= sizeLine /\ Vals xs its.toList
def SqT (K : PySem.W.Frag) (H : Hp) (a : Addr) (xs : List V) : Prop :=
 Rd H a (.tup xs) \/
  ∃ (o : Obj) (its : Array Value) (n : Nat),K.lookup a = some o /\ o.cls = .type "tuple" /\ o.dict = none /\ o.data = .seq its n /\ its.size <= sizeLine /\ Vals xs its.toList
noncomputable def absV : Value -> Option V
 | .none => some .non
 | .bool b => some (.bl b)
 | .int i _ => some (.int i)
 | .str x _ => some (.str x)
 | .bytes b _ => some (.byt b)
 | .float b _ => some (.flt b)
 | .ref a => some (.ref a)
 | .type n => some (.ty n)
 | _ => none
theorem RelV.abs {x : V} {u : Value} (r : RelV x u) : absV u = some x:=by
 cases x with
 | non => cases r; rfl
 | bl _ => cases r; rfl
 | int _ => obtain ⟨t,rfl⟩:=r; rfl
 | str _ => obtain ⟨t,rfl⟩:=r; rfl
 | byt _ => obtain ⟨t,rfl⟩:=r; rfl
 | flt _ => obtain ⟨t,rfl⟩:=r; rfl
 | ref _ => cases r; rfl
 | ty _ => cases r; rfl
theorem RelV.inj {x y : V} {u : Value} (r : RelV x u) (q : RelV y u) : x = y:=Option.some.inj (r.abs.symm.trans q.abs)
theorem Vals.inj {xs ys : List V} {us : List Value} (h : Vals xs us) (h' : Vals ys us) : xs = ys:=by
 induction h generalizing ys with
 | nil => cases h'; rfl
 | cons r t ih =>
  cases h' with
  | cons r' t' => rw [r.inj r',ih t']
section
variable {X : Cx} {pins : List (Addr × Obj)} {σ : St} {H : Hp} {s : Shared} {a : Addr} {xs ys : List V}
theorem SqL.of {K : PySem.W.Frag} (h : H a = some (.lst xs)) : SqL K H a xs:=.inl (.inl h)
theorem SqT.of {K : PySem.W.Frag} (h : H a = some (.tup xs)) : SqT K H a xs:=.inl (.inl h)
theorem Inv.list (I : Inv X pins σ H s) (h : SqL X.K H a xs) : ∃ its : List Value,Vals xs its /\ PlainL s.heap a its.toArray /\ xs.length <= sizeLine:=by
 rcases h with h | ⟨o,its,n,hk,hc,hd,hs,hz,r⟩
 ·
  obtain ⟨z,its,n,r,e⟩:=h.ok I.hok
  exact ⟨its,r,⟨_,n,e,rfl,rfl,rfl⟩,z⟩
 ·
  refine ⟨its.toList,r,⟨o,n,I.kIn a o hk,hc,hd,by simpa using hs⟩,?_⟩
  have e:=r.length
  simp only [Array.length_toList] at e
  omega
theorem Inv.tuple (I : Inv X pins σ H s) (h : SqT X.K H a xs) : ∃ its : List Value,Vals xs its /\ IsTup s.heap a its.toArray /\ xs.length <= sizeLine:=by
 rcases h with h | ⟨o,its,n,hk,hc,_,hs,hz,r⟩
 ·
  obtain ⟨z,its,r,p⟩:=h.ok I.hok
  exact ⟨its,r,p.is,z⟩
 ·
  refine ⟨its.toList,r,⟨o,I.kIn a o hk,hc,n,by simpa using hs⟩,?_⟩
  have e:=r.length
  simp only [Array.length_toList] at e
  omega
theorem Inv.list_inj (I : Inv X pins σ H s) (h : SqL X.K H a xs) (h' : SqL X.K H a ys) : xs = ys:=by
 obtain ⟨its,r,⟨o,n,e,_,_,d⟩,_⟩:=I.list h
 obtain ⟨its',r',⟨o',n',e',_,_,d'⟩,_⟩:=I.list h'
 rw [e] at e'; cases e'
 rw [d] at d'
 injection d' with d1 _
 have : its = its':=by simpa using congrArg Array.toList d1
 subst this
 exact r.inj r'
theorem Inv.tuple_inj (I : Inv X pins σ H s) (h : SqT X.K H a xs) (h' : SqT X.K H a ys) : xs = ys:=by
 obtain ⟨its,r,⟨o,e,_,n,d⟩,_⟩:=I.tuple h
 obtain ⟨its',r',⟨o',e',_,n',d'⟩,_⟩:=I.tuple h'
 rw [e] at e'; cases e'
 rw [d] at d'
 injection d' with d1 _
 have : its = its':=by simpa using congrArg Array.toList d1
 subst this
 exact r.inj r'
end
noncomputable abbrev Cx.wish (X : Cx) (E : Value -> Shared -> Prop) : Cx:={ X with xe:=E }
noncomputable abbrev Cx.nox (X : Cx) : Cx:=X.wish fun _ _ => False
theorem Cx.Ok.wish {X : Cx} (ok : X.Ok) (E : Value -> Shared -> Prop) : (X.wish E).Ok :=
 ⟨ok.mod,ok.kind,ok.glob,ok.blt,ok.above,ok.inj,ok.has,ok.cab,ok.hd,ok.frames,ok.stk,ok.exf,ok.bs,ok.bsz,ok.noex,ok.exfs,ok.funs,ok.frf⟩
theorem Cx.Ok.unwish {X : Cx} {E : Value -> Shared -> Prop} (ok : (X.wish E).Ok) : X.Ok :=
 ⟨ok.mod,ok.kind,ok.glob,ok.blt,ok.above,ok.inj,ok.has,ok.cab,ok.hd,ok.frames,ok.stk,ok.exf,ok.bs,ok.bsz,ok.noex,ok.exfs,ok.funs,ok.frf⟩
section
variable {X : Cx} {pins : List (Addr × Obj)} {σ : St} {H : Hp} {s : Shared} {E : Value -> Shared -> Prop}
theorem Inv.wish (I : Inv X pins σ H s) (E : Value -> Shared -> Prop) : Inv (X.wish E) pins σ H s:=⟨I.ok.wish E,I.os,I.bare,I.base,I.loc,I.cell,I.free,I.freeC,I.pin,I.hok,I.len⟩
theorem Inv.unwish (I : Inv (X.wish E) pins σ H s) : Inv X pins σ H s:=⟨I.ok.unwish,I.os,I.bare,I.base,I.loc,I.cell,I.free,I.freeC,I.pin,I.hok,I.len⟩
theorem SP.unwish {D : Ends} {f : Flow} {s' : Shared} (h : SP (X.wish E) pins D f s') : SP X pins D f s':=by
 cases f with
 | next => obtain ⟨σ',H',I,q⟩:=h; exact ⟨σ',H',I.unwish,q⟩
 | brk => obtain ⟨σ',H',I,q⟩:=h; exact ⟨σ',H',I.unwish,q⟩
 | cont => obtain ⟨σ',H',I,q⟩:=h; exact ⟨σ',H',I.unwish,q⟩
 | ret u => obtain ⟨v,σ',H',I,r,q⟩:=h; exact ⟨v,σ',H',I.unwish,r,q⟩
theorem PE.nox {e : Expr} {t : TE} (h : PE X.nox e t) : PE X e t:=fun pins s σ H Q I hw =>
 wpAny_mono (h pins s σ H Q (I.wish _) hw) (fun _ _ ⟨v,H',I',r,q⟩ => ⟨v,H',I'.unwish,r,q⟩) fun _ _ z => False.elim z
theorem PT.nox {e : Expr} {t : TT} (h : PT X.nox e t) : PT X e t:=fun pins s σ H Q I hw =>
 wpAny_mono (h pins s σ H Q (I.wish _) hw) (fun _ _ ⟨H',I',q⟩ => ⟨H',I'.unwish,q⟩) fun _ _ z => False.elim z
theorem PSs.nox {st : List Stmt} {t : TS} (h : PSs X.nox st t) : PSs X st t:=fun pins s σ H D I hw =>
 wpAny_mono (h pins s σ H D (I.wish _) hw) (fun _ _ q => q.unwish) fun _ _ z => False.elim z
end
section
variable {X : Cx} {st : Stmt} {rest : List Stmt} {t u : TS} {e : Expr} {te : TE} {pos : Pos}
def tNext : TS:=fun D σ H => D.nx σ H
def tSeq (t u : TS) : TS:=fun D σ H => t { D with nx:=u D } σ H
theorem pss_nil : PSs X [] tNext:=fun _ _ σ H _ I h => wpAny_execs_nil ⟨σ,H,I,h⟩
theorem pss_cons (h1 : PS X st t) (h2 : PSs X rest u) : PSs X (st :: rest) (tSeq t u):=by
 intro pins s σ H D I h
 refine wpAny_execs_cons (thn (h1 pins s σ H { D with nx:=u D } I h) fun f s1 q => ?_)
 cases f with
 | next =>
  obtain ⟨σ',H',I',q⟩:=q
  exact h2 pins s1 σ' H' D I' q
 | ret v => exact q
 | brk => exact q
 | cont => exact q
theorem pss_one (h1 : PS X st t) : PSs X [st] t:=by
 intro pins s σ H D I h
 refine wpAny_execs_cons (thn (h1 pins s σ H D I h) fun f s1 q => ?_)
 cases f with
 | next => exact wpAny_execs_nil q
 | ret v => exact q
 | brk => exact q
 | cont => exact q
theorem Inv.quiet {pins : List (Addr × Obj)} {σ : St} {H : Hp} {s : Shared} (I : Inv X pins σ H s) : interactive X.env = false:=by simp [interactive,I.ok.kind]
def tDrop (te : TE) : TS:=fun D σ H => te σ H fun _ H1 => D.nx σ H1
theorem ps_expr (he : PE X e te) (hs : swapsWith e none pos.line X.env = pure false:=by rfl) : PS X (.Expr e pos) (tDrop te):=by
 intro pins s σ H D I h
 exact wpAny_Expr_any (thn (he pins s σ H _ I h) fun v s1 ⟨x,H1,I1,r1,q1⟩ => ⟨σ,H1,I1,q1⟩) I.quiet hs
def tRet (te : TE) : TS:=fun D σ H => te σ H D.rt
theorem ps_ret (he : PE X e te) : PS X (.Return (some e) pos) (tRet te):=by
 intro pins s σ H D I h
 exact wpAny_Return_some (thn (he pins s σ H _ I h) fun v s1 ⟨x,H1,I1,r1,q1⟩ => ⟨x,σ,H1,I1,r1,q1⟩)
def tIfS (c : TT) (t u : TS) : TS:=fun D σ H => c σ H fun b H1 => if b = true then t D σ H1 else u D σ H1
theorem ps_if {c : Expr} {a b : List Stmt} {tc : TT} (hc : PT X c tc) (ha : PSs X a t) (hb : PSs X b u) : PS X (.If c a b pos) (tIfS tc t u):=by
 intro pins s σ H D I h
 refine wpAny_If (thn (hc pins s σ H _ I h) fun d s1 ⟨H1,I1,q1⟩ => ?_)
 cases d with
 | true => exact ha pins s1 σ H1 D I1 q1
 | false => exact hb pins s1 σ H1 D I1 q1
end
abbrev TG:=V -> St -> Hp -> (St -> Hp -> Prop) -> Prop
abbrev TGs:=List V -> St -> Hp -> (St -> Hp -> Prop) -> Prop
def PG (X : Cx) (target : Expr) (t : TG) : Prop :=
 ∀ (pins : List (Addr × Obj)) (s : Shared) (σ : St) (H : Hp) (v : V) (u : Value) (Q : St -> Hp -> Prop),Inv X pins σ H s -> RelV v u -> t v σ H Q ->
  wpAny (model X.prog X.w) X.A (assign target X.env u) (fun _ s' => ∃ σ' H',Inv X pins σ' H' s' /\ Q σ' H') X.xe s
def PGs (X : Cx) (ts : List Expr) (t : TGs) : Prop :=
 ∀ (pins : List (Addr × Obj)) (s : Shared) (σ : St) (H : Hp) (vs : List V) (us : List Value) (Q : St -> Hp -> Prop),Inv X pins σ H s -> Vals vs us -> t vs σ H Q ->
  wpAny (model X.prog X.w) X.A (assignInOrder ((assignEach ts X.env).map (·.2)) us) (fun _ s' => ∃ σ' H',Inv X pins σ' H' s' /\ Q σ' H') X.xe s
abbrev TSet:=V -> V -> V -> Hp -> (Hp -> Prop) -> Prop
def PSet (X : Cx) (t : TSet) : Prop :=
 ∀ (pins : List (Addr × Obj)) (s : Shared) (σ : St) (H : Hp) (o i v : V) (ov iv u : Value) (Q : Hp -> Prop),Inv X pins σ H s -> RelV o ov -> RelV i iv -> RelV v u -> t o i v H Q ->
  wpAny (model X.prog X.w) X.A (setItem ov iv u) (fun _ s' => ∃ H',Inv X pins σ H' s' /\ Q H') X.xe s
section
variable {X : Cx} {pos : Pos}
def gName (i : Nat) : TG:=fun v σ H Q => Q (σ.set i (some v)) H
theorem pg_name {i : Nat} {x : Str} (hN : X.N.Nodup) (hi : X.N[i]? = some x) (hx : Loc X.env.scope x) (hf : X.fn x = true \/ X.env.scope.names.lookup x = some .local:=by first | exact .inl rfl | exact .inr rfl | assumption) : PG X (.Name x pos) (gName i):=by
 intro pins s σ H v u Q I r h
 exact wpAny_assign_Name (store_ok I hN hi hx r (fun s' I' => ⟨_,H,I',h⟩) hf)
def gNil : TGs:=fun vs σ H Q => vs = [] /\ Q σ H
def gCons (t : TG) (u : TGs) : TGs:=fun vs σ H Q => ∃ v r,vs = v :: r /\ t v σ H fun σ' H' => u r σ' H' Q
theorem pgs_nil : PGs X [] gNil:=by
 intro pins s σ H vs us Q I r h
 obtain ⟨e,h⟩:=h
 subst e
 cases r
 exact assignInOrder_nil ⟨σ,H,I,h⟩
theorem pgs_cons {e : Expr} {es : List Expr} {t : TG} {u : TGs} (h1 : PG X e t) (h2 : PGs X es u)
  (hs : (assignEach (e :: es) X.env).map (·.2) = assign e X.env :: (assignEach es X.env).map (·.2):=by rfl) : PGs X (e :: es) (gCons t u):=by
 intro pins s σ H vs us Q I r h
 obtain ⟨v,vr,e1,h⟩:=h
 subst e1
 cases r with
 | cons r rr =>
  rw [hs]
  refine assignInOrder_cons (thn (h1 pins s σ H _ _ _ I r h) fun _ s1 ⟨σ1,H1,I1,q1⟩ => ?_)
  exact h2 pins s1 σ1 H1 _ _ Q I1 rr q1
def gTup (K : PySem.W.Frag) (n : Nat) (t : TGs) : TG:=fun v σ H Q => ∃ a xs,v = .ref a /\ SqT K H a xs /\ xs.length = n /\ t xs σ H Q
theorem pg_tup {es : List Expr} {k : Nat} {t : TGs} {n : Nat} (hc : X.calm = true) (h : PGs X es t)
  (hn : (assignEach es X.env).length = n:=by rfl) (hst : (assignEach es X.env).findIdx? (·.1) = none:=by rfl) : PG X (.Tuple es k pos) (gTup X.K n t):=by
 intro pins s σ H v u Q I r hw
 obtain ⟨a,xs,e1,hq,hl,hw⟩:=hw
 subst e1
 cases r
 obtain ⟨its,rv,ht,hz⟩:=I.tuple hq
 refine assign_Tuple_tuple (I.ok.hd hc) ht (by simp [hn,<- hl,rv.length]) hst fun h' hx => ?_
 have I1 : Inv X pins σ H { s with heap:=h' }:=I.kept (t':=s.toks) fun b o e => hx b o (Nat.ne_of_lt (Heap.lt_size e)) e
 exact h pins _ σ H xs _ Q I1 (by simpa using rv) hw
def gSub (to ti : TE) (t : TSet) : TG:=fun v σ H Q => to σ H fun o H1 => ti σ H1 fun i H2 => t o i v H2 fun H3 => Q σ H3
theorem pg_sub {o i : Expr} {to ti : TE} {t : TSet} (ho : PE X o to) (hi : PE X i ti) (hs : PSet X t)
  (ha : ∀ v,assign (.Subscript o i pos) X.env v = (do
   let ov <- holding [v] (eval o X.env)
   let iv <- holding [v,ov] (eval i X.env)
   standAt pos
   holding [v,ov,iv] (setItem ov iv v)
   release [v,ov,iv] []):=by intro _; rfl) : PG X (.Subscript o i pos) (gSub to ti t):=by
 intro pins s σ H v u Q I r h
 rw [ha]
 refine wpAny_bind (wpAny_holding (thn (ho pins s σ H _ I h) fun ov s1 ⟨x,H1,I1,r1,q1⟩ => ?_))
 refine wpAny_bind (wpAny_holding (thn (hi pins s1 σ H1 _ I1 q1) fun iv s2 ⟨y,H2,I2,r2,q2⟩ => ?_))
 refine wpAny_bind (wpAny_standAt (wpAny_bind (wpAny_holding (thn (hs pins s2 σ H2 x y v ov iv u _ I2 r1 r2 r q2) fun _ s3 ⟨H3,I3,q3⟩ => ?_))))
 exact wpAny_release ⟨σ,H3,I3,q3⟩
def tAsg (te : TE) (g : TG) : TS:=fun D σ H => te σ H fun x H1 => g x σ H1 D.nx
theorem ps_asg {tg e : Expr} {te : TE} {g : TG} (he : PE X e te) (hg : PG X tg g) (hs : swapsWithSole [tg] e pos.line X.env = pure false:=by rfl) (hw : swappedStores [tg] e X.env = pure none:=by rfl)
  (h1 : (assignEach [tg] X.env).map (·.2) = [assign tg X.env]:=by rfl) : PS X (.Assign [tg] e pos) (tAsg te g):=by
 intro pins s σ H D I h
 refine wpAny_Assign_stores (thn (he pins s σ H _ I h) fun v s1 ⟨x,H1,I1,r1,q1⟩ => ?_) hs hw
 rw [h1]
 exact thn (hg pins s1 σ H1 x v _ I1 r1 q1) fun _ s2 q => q
theorem ps_set {i : Nat} {x : Str} {e : Expr} {te : TE} {pos' : Pos} (hN : X.N.Nodup) (hi : X.N[i]? = some x) (hx : Loc X.env.scope x) (he : PE X e te) (hs : swapsWith e (some (.Name x pos')) pos.line X.env = pure false:=by rfl) (hf : X.fn x = true \/ X.env.scope.names.lookup x = some .local:=by first | exact .inl rfl | exact .inr rfl | assumption) :
  PS X (.Assign [.Name x pos'] e pos) (tAsg te (gName i)):=by
 intro pins s σ H D I h
 refine wpAny_Assign_Name (thn (he pins s σ H _ I h) fun v s1 ⟨y,H1,I1,r1,q1⟩ => ?_) hs
 exact store_ok I1 hN hi hx r1 (fun s2 I2 => ⟨_,H1,I2,q1⟩) hf
end
section
variable {X : Cx} {pos : Pos}
def tWhile (c : TT) (tb : TS) : TS:=fun D σ H => ∃ W : Nat -> St -> Hp -> Prop,(∃ m,W m σ H) /\ ∀ m σ H,W m σ H ->
 c σ H fun b H1 => if b = true then ∃ N : St -> Hp -> Prop,(∀ σ' H',N σ' H' -> ∃ m',m' < m /\ W m' σ' H') /\ tb { D with nx:=N,ct:=N,bk:=D.nx } σ H1 else D.nx σ H1
theorem ps_while {c : Expr} {body : List Stmt} {tc : TT} {tb : TS} (hp : PassesOwn (model X.prog X.w) X.A X.env X.xe) (hc : PT X c tc) (hb : PSs X body tb) : PS X (.While c body [] pos) (tWhile tc tb):=by
 intro pins s σ H D I h
 obtain ⟨W,⟨m0,w0⟩,turn⟩:=h
 refine wpAny_While (codeAny_whileLoop (fun n s' => ∃ σ' H',Inv X pins σ' H' s' /\ W n σ' H') ?_ m0 ⟨σ,H,I,w0⟩)
 rintro n s1 ⟨σ1,H1,I1,w1⟩
 refine wpAny_passesOwn hp (thn (hc pins s1 σ1 H1 _ I1 (turn n σ1 H1 w1)) fun b s2 ⟨H2,I2,q2⟩ => ?_)
 cases b with
 | true =>
  obtain ⟨N,hN,q2⟩:=q2
  rw [if_pos rfl]
  refine wpAny_passesOwn hp (thn (hb pins s2 σ1 H2 _ I2 q2) fun f s3 q3 => ?_)
  cases f with
  | next =>
   obtain ⟨σ3,H3,I3,n3⟩:=q3
   obtain ⟨m',hm,w3⟩:=hN σ3 H3 n3
   exact ⟨m',hm,σ3,H3,I3,w3⟩
  | cont =>
   obtain ⟨σ3,H3,I3,n3⟩:=q3
   obtain ⟨m',hm,w3⟩:=hN σ3 H3 n3
   exact ⟨m',hm,σ3,H3,I3,w3⟩
  | brk => exact q3
  | ret v => exact q3
 | false =>
  rw [if_neg Bool.false_ne_true]
  exact wpAny_execs_nil ⟨σ1,H2,I2,q2⟩
end
structure It where
 go : Nat -> Hp -> Prop
 yld : Nat -> Hp -> V -> Hp -> Prop
 stop : Nat -> Hp -> Prop
def FpOk (X : Cx) (pins : List (Addr × Obj)) (H : Hp) (b : Addr) : Prop :=
 H b = none /\ b ≠ X.env.locals /\ b ∉ X.fs /\ (b ∈ X.ex \/ X.s₀.heap.objs.size <= b) /\ (∀ x c,X.env.cells.lookup x = some c -> c ≠ b) /\ ∀ p ∈ X.pn ++ pins,p.1 ≠ b
theorem Inv.fpOk {X : Cx} {pins : List (Addr × Obj)} {σ : St} {H H' : Hp} {s : Shared} {b : Addr} (I : Inv X pins σ H s) (hb : s.heap.objs.size <= b) (hn : H' b = none) : FpOk X pins H' b:=by
 refine ⟨hn,Nat.ne_of_gt (Nat.lt_of_lt_of_le I.lt hb),I.nofs hb,.inr (Nat.le_trans I.sz hb),fun x c e z => ?_,fun p hp z => ?_⟩
 ·
  obtain ⟨v,q⟩:=I.cell x c e
  exact absurd (Nat.lt_of_lt_of_le q.lt (by rw [z]; exact hb)) (Nat.lt_irrefl _)
 ·
  exact absurd (Nat.lt_of_lt_of_le (Heap.lt_size (I.pin p hp).1) (by rw [z]; exact hb)) (Nat.lt_irrefl _)
structure Turn (P : Program) (w : World) (K : PySem.W.Frag) (tg : Expr) (J : It) (fp : List Addr) (it : Addr) (tn : Nat -> Heap -> Prop) : Prop where
 mem : it ∈ fp
 obj : ∀ i h,tn i h -> ∀ b ∈ fp,∃ o,h.get? b = some o /\ ∀ v,o.data ≠ .cell v
 keep : ∀ i h h',tn i h -> (∀ b ∈ fp,∀ o,h.get? b = some o -> h'.get? b = some o) -> tn i h'
 item : ∀ (X : Cx),X.prog = P -> X.w = w -> X.K = K -> X.calm = true -> ∀ (i : Nat) (pins : List (Addr × Obj)) (s : Shared) (σ : St) (H : Hp) (E : Value -> Shared -> Prop),Inv X pins σ H s -> (∀ b ∈ fp,FpOk X pins H b) -> tn i s.heap -> J.go i H ->
  wpAny (model P w) X.A (pyNext (.ref it)) (fun r s1 => ∃ u,r = some u /\
   wpAny (model P w) X.A (letOwnedTupleGo tg (.ref it) u) (fun _ s2 => ∃ x H',Inv X pins σ H' s2 /\ RelV x u /\ J.yld i H x H' /\ tn (i + 1) s2.heap /\ ∀ b ∈ fp,H' b = none) E s1) E s
 done : ∀ (X : Cx),X.prog = P -> X.w = w -> X.K = K -> X.calm = true -> ∀ (i : Nat) (pins : List (Addr × Obj)) (s : Shared) (σ : St) (H : Hp) (E : Value -> Shared -> Prop),Inv X pins σ H s -> (∀ b ∈ fp,FpOk X pins H b) -> tn i s.heap -> J.stop i H ->
  wpAny (model P w) X.A (pyNext (.ref it)) (fun r s1 => r = none /\ Inv X pins σ H s1) E s
 self : ∀ (A : Around) (i : Nat) (s : Shared) (Q : Value -> Shared -> Prop) (E : Value -> Shared -> Prop),tn i s.heap -> Q (.ref it) s -> wpAny (model P w) A (pyIter (.ref it)) Q E s
abbrev TI:=St -> Hp -> (It -> Hp -> Prop) -> Prop
def PIE (X : Cx) (pins : List (Addr × Obj)) (σ : St) (tg : Expr) (R : It -> Hp -> Prop) (itv : Value) (s2 : Shared) : Prop :=
 ∃ (it : Addr) (fp : List Addr) (tn : Nat -> Heap -> Prop) (J : It) (H' : Hp),itv = .ref it /\ Inv X pins σ H' s2 /\ Turn X.prog X.w X.K tg J fp it tn /\ tn 0 s2.heap /\ (∀ b ∈ fp,FpOk X pins H' b) /\ R J H'
def PI (X : Cx) (tg iter : Expr) (wi : TI) : Prop :=
 ∀ (pins : List (Addr × Obj)) (s : Shared) (σ : St) (H : Hp) (R : It -> Hp -> Prop),Inv X pins σ H s -> wi σ H R ->
  wpAny (model X.prog X.w) X.A (eval iter X.env) (fun v s1 => wpAny (model X.prog X.w) X.A (pyIter v) (PIE X pins σ tg R) X.xe s1) X.xe s
theorem go_of {M : Model} {A : Around} {E : Value -> Shared -> Prop} {s : Shared} {tg : Expr} {it : Addr} {u : Value} {o : Obj} {n : String} {vs : Array Value} {Q : Unit -> Shared -> Prop} (ho : s.heap.get? it = some o) (hc : o.cls = .type n) (hd : o.data = .fields vs)
  (hn : ["enumerate","zip","dict_itemiterator","dict_reverseitemiterator","odict_iterator","itertools.zip_longest","itertools.pairwise"].contains n = false) (hQ : Q () s) : wpAny M A (letOwnedTupleGo tg (.ref it) u) Q E s:=by
 unfold letOwnedTupleGo
 cases tg <;> first
  | exact wpAny_pure hQ
  | (cases u <;> first
    | exact wpAny_pure hQ
    | (refine wpAny_bind (wpAny_load ho ?_)
       rw [hc,hd]
       show wpAny M A (if (["enumerate","zip","dict_itemiterator","dict_reverseitemiterator","odict_iterator","itertools.zip_longest","itertools.pairwise"].contains n && vs[0]? == some (rawInt _)) = true then _ else _) Q E s
       rw [if_neg (by intro h; rw [hn,Bool.false_and] at h; cases h)]
       exact wpAny_pure hQ))
noncomputable def Itl (K : PySem.W.Frag) (a : Addr) : It :=
 ⟨fun i H => ∃ xs x,SqL K H a xs /\ xs[i]? = some x,fun i H x H' => H' = H /\ ∀ xs,SqL K H a xs -> xs[i]? = some x,fun i H => ∃ xs,SqL K H a xs /\ xs.length <= i⟩
noncomputable def Itt (K : PySem.W.Frag) (a : Addr) : It :=
 ⟨fun i H => ∃ xs x,SqT K H a xs /\ xs[i]? = some x,fun i H x H' => H' = H /\ ∀ xs,SqT K H a xs -> xs[i]? = some x,fun i H => ∃ xs,SqT K H a xs /\ xs.length <= i⟩
noncomputable def Itr (lo : Int) (n : Nat) : It:=⟨fun i _ => i < n,fun i H x H' => H' = H /\ x = .int (lo + i),fun i _ => n <= i⟩
theorem turn_list {P : Program} {w : World} {K : PySem.W.Frag} {tg : Expr} (a it : Addr) : Turn P w K tg (Itl K a) [it] it (fun i h => h.IsListIter it a i) where
 mem:=by simp
 obj:=fun i h st b hb => by
  have e : b = it:=by simpa using hb
  subst e
  obtain ⟨o,e,c,d⟩:=st
  exact ⟨o,e,fun v z => by rw [d] at z; cases z⟩
 keep:=fun i h h' st k => st.at fun o e => k it (by simp) o e
 item:=by
  intro X hP hw hK hc i pins s σ H E I hf st hg
  subst hP hw hK
  obtain ⟨xs,x,hq,hx⟩:=hg
  obtain ⟨its,rv,p,hz⟩:=I.list hq
  obtain ⟨u,hu,ru⟩:=rv.get hx
  obtain ⟨f0,f1,f2,f3,f4,f5⟩:=hf it (by simp)
  refine wpAny_pyNext_list_item st p.isList (x:=u) (by simpa using hu) fun h' st' sb => ?_
  have I1 : Inv X pins σ H { s with heap:=h' }:=I.turned (t':=s.toks) (fun b o hb e => (sb.2 b hb).trans e) f0 f1 f3 f4 f5
  obtain ⟨o,e,c,d⟩:=id st'
  exact ⟨u,rfl,go_of (s:={ s with heap:=h' }) e c d (by decide) ⟨x,H,I1,ru,⟨rfl,fun ys hy => by rw [I.list_inj hy hq]; exact hx⟩,st',fun b hb => (hf b hb).1⟩⟩
 done:=by
  intro X hP hw hK hc i pins s σ H E I hf st hg
  subst hP hw hK
  obtain ⟨xs,hq,hx⟩:=hg
  obtain ⟨its,rv,p,hz⟩:=I.list hq
  obtain ⟨f0,f1,f2,f3,f4,f5⟩:=hf it (by simp)
  have hl:=rv.length
  exact wpAny_pyNext_list_end (I.ok.hd hc) st p.isList (by simp; omega) fun h' eb => ⟨rfl,I.turned (t':=s.toks) (fun b o hb e => eb b o hb e) f0 f1 f3 f4 f5⟩
 self:=fun _ _ _ _ _ st h => wpAny_pyIter_listiter st h
theorem turn_tuple {P : Program} {w : World} {K : PySem.W.Frag} {tg : Expr} (a it : Addr) : Turn P w K tg (Itt K a) [it] it (fun i h => h.IsTupleIter it a i) where
 mem:=by simp
 obj:=fun i h st b hb => by
  have e : b = it:=by simpa using hb
  subst e
  obtain ⟨o,e,c,d⟩:=st
  exact ⟨o,e,fun v z => by rw [d] at z; cases z⟩
 keep:=fun i h h' st k => st.at fun o e => k it (by simp) o e
 item:=by
  intro X hP hw hK hc i pins s σ H E I hf st hg
  subst hP hw hK
  obtain ⟨xs,x,hq,hx⟩:=hg
  obtain ⟨its,rv,p,hz⟩:=I.tuple hq
  obtain ⟨u,hu,ru⟩:=rv.get hx
  obtain ⟨f0,f1,f2,f3,f4,f5⟩:=hf it (by simp)
  refine wpAny_pyNext_tuple_item st (show s.heap.IsTuple a its.toArray from p) (x:=u) (by simpa using hu) fun h' st' sb => ?_
  have I1 : Inv X pins σ H { s with heap:=h' }:=I.turned (t':=s.toks) (fun b o hb e => (sb.2 b hb).trans e) f0 f1 f3 f4 f5
  obtain ⟨o,e,c,d⟩:=id st'
  exact ⟨u,rfl,go_of (s:={ s with heap:=h' }) e c d (by decide) ⟨x,H,I1,ru,⟨rfl,fun ys hy => by rw [I.tuple_inj hy hq]; exact hx⟩,st',fun b hb => (hf b hb).1⟩⟩
 done:=by
  intro X hP hw hK hc i pins s σ H E I hf st hg
  subst hP hw hK
  obtain ⟨xs,hq,hx⟩:=hg
  obtain ⟨its,rv,p,hz⟩:=I.tuple hq
  obtain ⟨f0,f1,f2,f3,f4,f5⟩:=hf it (by simp)
  have hl:=rv.length
  exact wpAny_pyNext_tuple_end (I.ok.hd hc) st (show s.heap.IsTuple a its.toArray from p) (by simp; omega) fun h' eb => ⟨rfl,I.turned (t':=s.toks) (fun b o hb e => eb b o hb e) f0 f1 f3 f4 f5⟩
 self:=fun _ _ _ _ _ st h => wpAny_pyIter_tupleiter st h
theorem turn_range {P : Program} {w : World} {K : PySem.W.Frag} {tg : Expr} (it : Addr) (lo : Int) (n : Nat) : Turn P w K tg (Itr lo n) [it] it (fun i h => IsRangeIter h it (lo + (i : Nat) * 1) ((n : Int) - (i : Nat)) 1) where
 mem:=by simp
 obj:=fun i h st b hb => by
  have e : b = it:=by simpa using hb
  subst e
  exact ⟨_,st,fun v z => by
   have z' : Data.fields _ = Data.cell v:=z
   cases z'⟩
 keep:=fun i h h' st k => k it (by simp) _ st
 item:=by
  intro X hP hw hK hc i pins s σ H E I hf st hg
  subst hP hw hK
  obtain ⟨f0,f1,f2,f3,f4,f5⟩:=hf it (by simp)
  have W:=Walks.range (prog:=X.prog) (w:=X.w) (I.ok.hd hc) it lo 1 n
  refine W.item i s _ _ hg st fun v h' tk hv st' kk => ?_
  obtain ⟨t,rfl⟩:=hv
  have I1 : Inv X pins σ H { s with heap:=h',toks:=tk }:=I.turned (fun b o hb e => kk b o (by simpa using hb) e) f0 f1 f3 f4 f5
  refine ⟨_,rfl,go_of (s:={ s with heap:=h',toks:=tk }) (n:="range_iterator") st' rfl rfl (by decide) ⟨.int (lo + i),H,I1,⟨t,?_⟩,⟨rfl,rfl⟩,st',fun b hb => (hf b hb).1⟩⟩
  rw [Int.mul_one]
 done:=by
  intro X hP hw hK hc i pins s σ H E I hf st hg
  subst hP hw hK
  obtain ⟨f0,f1,f2,f3,f4,f5⟩:=hf it (by simp)
  exact wpAny_pyNext_range_end (I.ok.hd hc) st (by have : n <= i:=hg; omega) fun h' eb => ⟨rfl,I.turned (t':=s.toks) (fun b o hb e => eb b o hb e) f0 f1 f3 f4 f5⟩
 self:=fun _ _ _ _ _ st h => wpAny_pyIter_rangeiter st h
end L2
namespace L2
open PySem PySem.Spec PyProof.Rows
section
variable {X : Cx} {tg : Expr}
def iList (K : PySem.W.Frag) (tl : TE) : TI:=fun σ H R => tl σ H fun x H1 => ∃ a,x = .ref a /\ (∃ xs,SqL K H1 a xs) /\ R (Itl K a) H1
def iTup (K : PySem.W.Frag) (tl : TE) : TI:=fun σ H R => tl σ H fun x H1 => ∃ a,x = .ref a /\ (∃ xs,SqT K H1 a xs) /\ R (Itt K a) H1
theorem pi_list {l : Expr} {tl : TE} (hl : PE X l tl) : PI X tg l (iList X.K tl):=by
 intro pins s σ H R I h
 refine thn (hl pins s σ H _ I h) fun v s1 ⟨x,H1,I1,r1,q1⟩ => ?_
 obtain ⟨a,e,⟨xs,hq⟩,q⟩:=q1
 subst e
 cases r1
 obtain ⟨its,rv,p,hz⟩:=I1.list hq
 refine wpAny_pyIter_list p.isList ?_
 refine ⟨s1.heap.objs.size,[s1.heap.objs.size],_,_,H1,rfl,I1.kept (t':=s1.toks) fun b o e => Heap.get?_push_of_some _ e,turn_list a _,⟨_,Heap.get?_push_size _ rfl,rfl,rfl⟩,fun b hb => ?_,q⟩
 have e : b = s1.heap.objs.size:=by simpa using hb
 subst e
 exact I1.fpOk (Nat.le_refl _) (I1.hok.fresh (Nat.le_refl _))
theorem pi_tup {l : Expr} {tl : TE} (hl : PE X l tl) : PI X tg l (iTup X.K tl):=by
 intro pins s σ H R I h
 refine thn (hl pins s σ H _ I h) fun v s1 ⟨x,H1,I1,r1,q1⟩ => ?_
 obtain ⟨a,e,⟨xs,hq⟩,q⟩:=q1
 subst e
 cases r1
 obtain ⟨its,rv,p,hz⟩:=I1.tuple hq
 refine wpAny_pyIter_tuple (show s1.heap.IsTuple a its.toArray from p) ?_
 refine ⟨s1.heap.objs.size,[s1.heap.objs.size],_,_,H1,rfl,I1.kept (t':=s1.toks) fun b o e => Heap.get?_push_of_some _ e,turn_tuple a _,⟨_,Heap.get?_push_size _ rfl,rfl,rfl⟩,fun b hb => ?_,q⟩
 have e : b = s1.heap.objs.size:=by simpa using hb
 subst e
 exact I1.fpOk (Nat.le_refl _) (I1.hok.fresh (Nat.le_refl _))
theorem range_it {pins : List (Addr × Obj)} {σ : St} {H : Hp} {s : Shared} {R : It -> Hp -> Prop} {E : Value -> Shared -> Prop} {lo hi : Int} {t u v : Tok} {tk : Nat} (I : Inv X pins σ H s) (h1 : -(2 ^ 62) <= lo) (h2 : lo < 2 ^ 62) (h3 : -(2 ^ 62) <= hi) (h4 : hi < 2 ^ 62)
  (q : R (Itr lo (hi - lo).toNat) H) : wpAny (model X.prog X.w) X.A (pyIter (.ref s.heap.objs.size)) (PIE X pins σ tg R) E { s with heap:=s.heap.push { cls:=.type "range",data:=.fields #[.int lo t,.int hi u,.int 1 v] },toks:=tk }:=by
 refine wpAny_pyIter_range (IsRange.new ..) (small_one h1 h2 h3 h4) ?_
 have I1 : Inv X pins σ H { s with heap:=s.heap.push { cls:=.type "range",data:=.fields #[.int lo t,.int hi u,.int 1 v] },toks:=tk }:=I.kept fun b o e => Heap.get?_push_of_some _ e
 refine ⟨(s.heap.push { cls:=.type "range",data:=.fields #[.int lo t,.int hi u,.int 1 v] }).objs.size,[(s.heap.push { cls:=.type "range",data:=.fields #[.int lo t,.int hi u,.int 1 v] }).objs.size],_,_,H,rfl,
  I1.kept (t':=tk) fun b o e => Heap.get?_push_of_some _ e,turn_range _ lo (hi - lo).toNat,?_,fun b hb => ?_,q⟩
 ·
  have e1 : lo + ((0 : Nat) : Int) * 1 = lo:=by simp
  have e2 : (((hi - lo).toNat : Nat) : Int) - ((0 : Nat) : Int) = Builtin.Range.rangeSize lo hi 1:=by rw [rangeSize_one]; split <;> omega
  show IsRangeIter _ _ (lo + ((0 : Nat) : Int) * 1) ((((hi - lo).toNat : Nat) : Int) - ((0 : Nat) : Int)) 1
  rw [e1,e2]
  exact Heap.get?_push_size _ rfl
 ·
  have e : b = (s.heap.push { cls:=.type "range",data:=.fields #[.int lo t,.int hi u,.int 1 v] }).objs.size:=by simpa using hb
  subst e
  exact I1.fpOk (Nat.le_refl _) (I1.hok.fresh (Nat.le_refl _))
def iRng1 (ta : TA) : TI:=fun σ H R => ta σ H fun vs H1 => ∃ j : Int,vs = [.int j] /\ -(2 ^ 62) <= j /\ j < 2 ^ 62 /\ R (Itr 0 j.toNat) H1
def iRng2 (ta : TA) : TI:=fun σ H R => ta σ H fun vs H1 => ∃ i j : Int,vs = [.int i,.int j] /\ (-(2 ^ 62) <= i /\ i < 2 ^ 62 /\ -(2 ^ 62) <= j /\ j < 2 ^ 62) /\ R (Itr i (j - i).toNat) H1
theorem pi_range1 {a : Expr} {ta : TA} {p pos : Pos} (hg : Gl X "range") (hm : X.mg "range" = none) (ha : PA X [a] ta) (hs : starEach [a] X.env = [(false,eval a X.env)]:=by rfl) : PI X tg (.Call (.Name "range" p) [a] [] pos) (iRng1 ta):=by
 intro pins s σ H R I h
 refine Call_ (ld_blt I hg hm boot_range (PyProof.Rows.callWith_type1 (thn (ha pos pins s σ H _ I h) fun us s1 ⟨vs,H1,I1,r1,q1⟩ => ?_) hs rfl))
 obtain ⟨j,e,q1,q2,q⟩:=q1
 subst e
 cases r1 with
 | cons r rr =>
  cases rr
  obtain ⟨t,rfl⟩:=r
  exact call_range_1 (range_it I1 (by omega) (by omega) q1 q2 (by simpa using q))
theorem pi_range2 {a b : Expr} {ta : TA} {p pos : Pos} (hg : Gl X "range") (hm : X.mg "range" = none) (ha : PA X [a,b] ta) (hs : starEach [a,b] X.env = [(false,eval a X.env),(false,eval b X.env)]:=by rfl) (hs2 : starEach [b] X.env = [(false,eval b X.env)]:=by rfl) :
  PI X tg (.Call (.Name "range" p) [a,b] [] pos) (iRng2 ta):=by
 intro pins s σ H R I h
 refine Call_ (ld_blt I hg hm boot_range (PyProof.Rows.callWith_type1 (thn (ha pos pins s σ H _ I h) fun us s1 ⟨vs,H1,I1,r1,q1⟩ => ?_) (by rw [hs,hs2]) (by rw [hs2]; rfl)))
 obtain ⟨i,j,e,⟨q1,q2,q3,q4⟩,q⟩:=q1
 subst e
 cases r1 with
 | cons r rr =>
  cases rr with
  | cons r' rr =>
   cases rr
   obtain ⟨t,rfl⟩:=r
   obtain ⟨t',rfl⟩:=r'
   exact call_range_2 (range_it I1 q1 q2 q3 q4 q)
def tFor (wi : TI) (g : TG) (tb : TS) : TS:=fun D σ H => wi σ H fun J H1 => ∃ W : Nat -> Nat -> St -> Hp -> Prop,(∃ m,W 0 m σ H1) /\ ∀ i m σ H,W i m σ H ->
 (J.stop i H /\ D.nx σ H) \/ (J.go i H /\ ∃ N : St -> Hp -> Prop,(∀ σ' H',N σ' H' -> ∃ m',m' < m /\ W (i + 1) m' σ' H') /\ ∀ x H',J.yld i H x H' -> g x σ H' fun σ2 H2 => tb { D with nx:=N,ct:=N,bk:=D.nx } σ2 H2)
noncomputable def pinsAt (fp : List Addr) (h : Heap) : List (Addr × Obj):=fp.filterMap fun b => (h.get? b).map fun o => (b,o)
theorem mem_pinsAt {fp : List Addr} {h : Heap} {b : Addr} {o : Obj} (hb : b ∈ fp) (e : h.get? b = some o) : (b,o) ∈ pinsAt fp h:=List.mem_filterMap.mpr ⟨b,hb,by rw [e]; rfl⟩
theorem of_pinsAt {fp : List Addr} {h : Heap} {p : Addr × Obj} (hp : p ∈ pinsAt fp h) : p.1 ∈ fp /\ h.get? p.1 = some p.2:=by
 obtain ⟨b,hb,e⟩:=List.mem_filterMap.mp hp
 cases q : h.get? b with
 | none => rw [q] at e; cases e
 | some o =>
  rw [q] at e
  have e' : (b,o) = p:=Option.some.inj e
  subst e'
  exact ⟨hb,q⟩
theorem Inv.pinned {pins : List (Addr × Obj)} {σ : St} {H : Hp} {s : Shared} {fp : List Addr} (I : Inv X pins σ H s) (hf : ∀ b ∈ fp,FpOk X pins H b) (ho : ∀ b ∈ fp,∃ o,s.heap.get? b = some o /\ ∀ v,o.data ≠ .cell v) : Inv X (pins ++ pinsAt fp s.heap) σ H s :=
 I.pins_of fun p hp => (List.mem_append.mp hp).elim (fun z => I.pin p (List.mem_append_right _ z)) fun z => by
  obtain ⟨hb,e⟩:=of_pinsAt z
  obtain ⟨f0,f1,f2,_⟩:=hf p.1 hb
  obtain ⟨o,e',d⟩:=ho p.1 hb
  rw [e] at e'; cases e'
  exact ⟨e,f0,f1,f2,d⟩
theorem Inv.unpinned {pins pl : List (Addr × Obj)} {σ : St} {H : Hp} {s : Shared} (I : Inv X (pins ++ pl) σ H s) : Inv X pins σ H s:=I.pins_of fun p hp => I.pin p (List.mem_append_right _ (List.mem_append_left _ hp))
theorem ps_for {iter : Expr} {body : List Stmt} {wi : TI} {g : TG} {tb : TS} {pos : Pos} (hp : PassesOwn (model X.prog X.w) X.A X.env X.xe) (hc : X.calm = true) (hi : PI X tg iter wi) (hg : PG X tg g) (hb : PSs X body tb)
  (hs : ∀ x,foldedSetIterable iter X.env x = pure x:=by intro _; rfl) : PS X (.For tg iter body [] pos) (tFor wi g tb):=by
 intro pins s σ H D I h
 refine wpAny_For (thn (hi pins s σ H _ I h) fun v s1 h1 => thn h1 fun itv s2 h2 => ?_) hs
 obtain ⟨it,fp,tn,J,H2,e,I2,T,st2,f2,W,⟨m0,w0⟩,turn⟩:=h2
 subst e
 -- what stays true of the iterator's objects through the loop
 have stat : ∀ {H' : Hp},(∀ b ∈ fp,H' b = none) -> ∀ b ∈ fp,FpOk X pins H' b:=fun hn b hb => ⟨hn b hb,(f2 b hb).2⟩
 refine codeAny_forLoop_any (fun n s' => ∃ i σ' H',Inv X pins σ' H' s' /\ tn i s'.heap /\ (∀ b ∈ fp,H' b = none) /\ W i n σ' H') ?_ m0 ⟨0,σ,H2,I2,st2,fun b hb => (f2 b hb).1,w0⟩
 rintro n s3 ⟨i,σ3,H3,I3,st3,fr3,w3⟩
 rcases turn i n σ3 H3 w3 with ⟨stop,qn⟩ | ⟨go,N,hN,step⟩
 ·
  refine wpAny_passesOwn hp (thn (T.done X rfl rfl rfl hc i pins s3 σ3 H3 X.xe I3 (stat fr3) st3 stop) fun r s4 ⟨hr,I4⟩ => ?_)
  subst hr
  exact wpAny_execs_nil ⟨σ3,H3,I4,qn⟩
 ·
  refine wpAny_passesOwn hp (thn (T.item X rfl rfl rfl hc i pins s3 σ3 H3 X.xe I3 (stat fr3) st3 go) fun r s4 ⟨u,hr,h4⟩ => ?_)
  subst hr
  refine wpAny_passesOwn hp (thn h4 fun _ s5 ⟨x,H5,I5,r5,y5,st5,fr5⟩ => ?_)
  have I5':=I5.pinned (stat fr5) (T.obj _ _ st5)
  refine wpAny_passesOwn hp (thn (hg _ s5 σ3 H5 x u _ I5' r5 (step x H5 y5)) fun _ s6 ⟨σ6,H6,I6,q6⟩ => ?_)
  refine wpAny_passesOwn hp (thn (hb _ s6 σ6 H6 _ I6 q6) fun f s7 q7 => ?_)
  have again : ∀ {σ7 : St} {H7 : Hp},Inv X (pins ++ pinsAt fp s5.heap) σ7 H7 s7 -> N σ7 H7 -> ∃ m,m < n /\ ∃ i σ' H',Inv X pins σ' H' s7 /\ tn i s7.heap /\ (∀ b ∈ fp,H' b = none) /\ W i m σ' H':=fun {σ7 H7} I7 n7 => by
   obtain ⟨m',hm,w7⟩:=hN σ7 H7 n7
   refine ⟨m',hm,i + 1,σ7,H7,I7.unpinned,T.keep _ _ _ st5 fun b hb o e => (I7.pin (b,o) (List.mem_append_right _ (List.mem_append_right _ (mem_pinsAt hb e)))).1,fun b hb => ?_,w7⟩
   obtain ⟨o,e,d⟩:=T.obj _ _ st5 b hb
   exact (I7.pin (b,o) (List.mem_append_right _ (List.mem_append_right _ (mem_pinsAt hb e)))).2.1
  cases f with
  | next => obtain ⟨σ7,H7,I7,n7⟩:=q7; exact again I7 n7
  | cont => obtain ⟨σ7,H7,I7,n7⟩:=q7; exact again I7 n7
  | brk => obtain ⟨σ7,H7,I7,q7⟩:=q7; exact ⟨σ7,H7,I7.unpinned,q7⟩
  | ret v => obtain ⟨x7,σ7,H7,I7,r7,q7⟩:=q7; exact ⟨x7,σ7,H7,I7.unpinned,r7,q7⟩
end
end L2
namespace L2
open PySem PySem.Spec PyProof.Rows
abbrev R2:=V -> V -> Hp -> VK -> Prop
def OpR (X : Cx) (f : Value -> Value -> Sem Value) (r : R2) : Prop :=
 ∀ (pins : List (Addr × Obj)) (s : Shared) (σ : St) (H : Hp) (x y : V) (v u : Value) (Q : VK),Inv X pins σ H s -> RelV x v -> RelV y u -> r x y H Q ->
  wpAny (model X.prog X.w) X.A (f v u) (EP X pins σ Q) X.xe s
def UnR (X : Cx) (f : Value -> Sem Value) (r : V -> Hp -> VK -> Prop) : Prop :=
 ∀ (pins : List (Addr × Obj)) (s : Shared) (σ : St) (H : Hp) (x : V) (v : Value) (Q : VK),Inv X pins σ H s -> RelV x v -> r x H Q ->
  wpAny (model X.prog X.w) X.A (f v) (EP X pins σ Q) X.xe s
def CallR (X : Cx) (f : Value) (r : List V -> Hp -> VK -> Prop) : Prop :=
 ∀ (pins : List (Addr × Obj)) (s : Shared) (σ : St) (H : Hp) (xs : List V) (us : List Value) (Q : VK),Inv X pins σ H s -> Vals xs us -> r xs H Q ->
  wpAny (model X.prog X.w) X.A (call f us) (EP X pins σ Q) X.xe s
def TruR (X : Cx) (r : V -> Hp -> (Bool -> Hp -> Prop) -> Prop) : Prop :=
 ∀ (pins : List (Addr × Obj)) (s : Shared) (σ : St) (H : Hp) (x : V) (v : Value) (Q : Bool -> Hp -> Prop),Inv X pins σ H s -> RelV x v -> r x H Q ->
  wpAny (model X.prog X.w) X.A (truthy v) (TP X pins σ Q) X.xe s
def tOp (r : R2) (ta tb : TE) : TE:=fun σ H Q => ta σ H fun x H1 => tb σ H1 fun y H2 => r x y H2 Q
def tUn (r : V -> Hp -> VK -> Prop) (ta : TE) : TE:=fun σ H Q => ta σ H fun x H1 => r x H1 Q
def rI (C : Int -> Int -> Prop) (g : Int -> Int -> V) : R2:=fun x y H Q => ∃ i j,x = .int i /\ y = .int j /\ C i j /\ Q (g i j) H
def rI0 (g : Int -> Int -> V) : R2:=fun x y H Q => ∃ i j,x = .int i /\ y = .int j /\ Q (g i j) H
def rU (g : Int -> V) : V -> Hp -> VK -> Prop:=fun x H Q => ∃ i,x = .int i /\ Q (g i) H
section
variable {X : Cx} {a b c : Expr} {ta tb tc : TE} {pos : Pos}
theorem binT (ha : PE X a ta) (hb : PE X b tb) {pins : List (Addr × Obj)} {s : Shared} {σ : St} {H : Hp} {R : V -> V -> Hp -> Prop} (I : Inv X pins σ H s)
  (h : ta σ H fun x H1 => tb σ H1 fun y H2 => R x y H2) {Q : Value -> Shared -> Prop} {f : Value -> Value -> Sem Value}
  (hf : ∀ v u s2 x y H2,Inv X pins σ H2 s2 -> RelV x v -> RelV y u -> R x y H2 -> wpAny (model X.prog X.w) X.A (f v u) Q X.xe s2) :
  wpAny (model X.prog X.w) X.A (eval a X.env) (fun v s₁ => wpAny (model X.prog X.w) X.A (eval b X.env) (fun u s₂ => wpAny (model X.prog X.w) X.A (f v u) Q X.xe s₂) X.xe s₁) X.xe s:=by
 refine thn (ha pins s σ H _ I h) fun v s1 ⟨x,H1,I1,r1,q1⟩ => ?_
 refine thn (hb pins s1 σ H1 _ I1 q1) fun u s2 ⟨y,H2,I2,r2,q2⟩ => ?_
 exact hf v u s2 x y H2 I2 r1 r2 q2
theorem pe_op {op : Operator} {r : R2} (ho : OpR X (binaryOp op) r) (ha : PE X a ta) (hb : PE X b tb) : PE X (.BinOp a op b pos) (tOp r ta tb):=by
 intro pins s σ H Q I h
 exact wpAny_BinOp (binT ha hb I h fun v u s2 x y H2 I2 rx ry q => ho pins s2 σ H2 x y v u Q I2 rx ry q)
theorem pe_un {op : UnaryOp} {r : V -> Hp -> VK -> Prop} (ho : UnR X (unaryOp op) r) (ha : PE X a ta) : PE X (.UnaryOp op a pos) (tUn r ta):=by
 intro pins s σ H Q I h
 exact UnaryOp_ (thn (ha pins s σ H _ I h) fun v s1 ⟨x,H1,I1,r1,q1⟩ => ho pins s1 σ H1 x v Q I1 r1 q1)
theorem opI {f : Value -> Value -> Sem Value} {C : Int -> Int -> Prop} {g : Int -> Int -> Int}
  (rule : ∀ (i j : Int) (t u : Tok) (s : Shared) (Q : Value -> Shared -> Prop) (E : Value -> Shared -> Prop),C i j -> Q (.int (g i j) s.toks) { s with toks:=s.toks + 1 } -> wpAny (model X.prog X.w) X.A (f (.int i t) (.int j u)) Q E s) :
  OpR X f (rI C fun i j => .int (g i j)):=by
 intro pins s σ H x y v u Q I rx ry h
 obtain ⟨i,j,rfl,rfl,hc,q⟩:=h
 obtain ⟨t,rfl⟩:=rx
 obtain ⟨t',rfl⟩:=ry
 exact rule i j t t' s _ _ hc ⟨.int (g i j),H,I.tok _,⟨_,rfl⟩,q⟩
theorem opI0 {f : Value -> Value -> Sem Value} {g : Int -> Int -> Int}
  (rule : ∀ (i j : Int) (t u : Tok) (s : Shared) (Q : Value -> Shared -> Prop) (E : Value -> Shared -> Prop),Q (.int (g i j) s.toks) { s with toks:=s.toks + 1 } -> wpAny (model X.prog X.w) X.A (f (.int i t) (.int j u)) Q E s) :
  OpR X f (rI0 fun i j => .int (g i j)):=by
 intro pins s σ H x y v u Q I rx ry h
 obtain ⟨i,j,rfl,rfl,q⟩:=h
 obtain ⟨t,rfl⟩:=rx
 obtain ⟨t',rfl⟩:=ry
 exact rule i j t t' s _ _ ⟨.int (g i j),H,I.tok _,⟨_,rfl⟩,q⟩
theorem opB0 {f : Value -> Value -> Sem Value} {g : Int -> Int -> Bool}
  (rule : ∀ (i j : Int) (t u : Tok) (s : Shared) (Q : Value -> Shared -> Prop) (E : Value -> Shared -> Prop),Q (.bool (g i j)) s -> wpAny (model X.prog X.w) X.A (f (.int i t) (.int j u)) Q E s) :
  OpR X f (rI0 fun i j => .bl (g i j)):=by
 intro pins s σ H x y v u Q I rx ry h
 obtain ⟨i,j,rfl,rfl,q⟩:=h
 obtain ⟨t,rfl⟩:=rx
 obtain ⟨t',rfl⟩:=ry
 exact rule i j t t' s _ _ ⟨.bl (g i j),H,I,rfl,q⟩
def CPow (i j : Int) : Prop:=0 <= j /\ j <= 1000000 /\ i.natAbs < 2 ^ 64
def CMul (i j : Int) : Prop:=(-(2 ^ 64) < i /\ i < 2 ^ 64) \/ (-(2 ^ 64) < j /\ j < 2 ^ 64)
theorem CMul.ok {i j : Int} (h : CMul i j) : IntMulOk i j:=by
 rcases h with ⟨h1,h2⟩ | ⟨h1,h2⟩
 ·
  exact .of_left (intBits_le_64 h1 h2)
 ·
  exact .of_right (intBits_le_64 h1 h2)
theorem two_pow_nn (k : Nat) : (0 : Int) <= 2 ^ k:=by
 rw [two_pow_cast]
 exact Int.natCast_nonneg _
theorem op_add : OpR X (binaryOp .Add) (rI0 fun i j => .int (i + j)):=opI0 fun _ _ _ _ _ _ _ q => add_int q
theorem op_sub : OpR X (binaryOp .Sub) (rI0 fun i j => .int (i - j)):=opI0 fun _ _ _ _ _ _ _ q => sub_int q
theorem op_mul : OpR X (binaryOp .Mult) (rI CMul fun i j => .int (i * j)):=opI fun _ _ _ _ _ _ _ hc q => mul_int q hc.ok
theorem op_mod : OpR X (binaryOp .Mod) (rI (fun _ j => 0 < j) fun i j => .int (i % j)):=opI fun i j _ _ _ _ _ hc q => by
 have h1 : (0 : Int) < j:=hc
 exact mod_int' (by omega) (by rw [Int.fmod_eq_emod_of_nonneg i (by omega)]; exact q)
theorem op_pow : OpR X (binaryOp .Pow) (rI CPow fun i j => .int (i ^ j.toNat)):=opI fun _ _ _ _ _ _ _ hc q => pow_int_small hc.1 hc.2.1 hc.2.2 q
theorem op_shl : OpR X (binaryOp .LShift) (rI CPow fun i j => .int (i * 2 ^ j.toNat)):=opI fun _ _ _ _ _ _ _ hc q => lshift_int_small hc.1 hc.2.1 hc.2.2 q
theorem op_shr : OpR X (binaryOp .RShift) (rI (fun _ j => 0 <= j) fun i j => .int (i / 2 ^ j.toNat)):=opI fun i j _ _ _ _ _ hc q =>
 rshift_int hc (by rw [Int.fdiv_eq_ediv_of_nonneg i (two_pow_nn _)]; exact q)
theorem op_and : OpR X (binaryOp .BitAnd) (rI0 fun i j => .int (Builtin.bitAnd i j)):=opI0 fun _ _ _ _ _ _ _ q => and_int q
theorem unI {f : Value -> Sem Value} {g : Int -> Int}
  (rule : ∀ (i : Int) (t : Tok) (s : Shared) (Q : Value -> Shared -> Prop) (E : Value -> Shared -> Prop),Q (.int (g i) s.toks) { s with toks:=s.toks + 1 } -> wpAny (model X.prog X.w) X.A (f (.int i t)) Q E s) :
  UnR X f (rU fun i => .int (g i)):=by
 intro pins s σ H x v Q I rx h
 obtain ⟨i,rfl,q⟩:=h
 obtain ⟨t,rfl⟩:=rx
 exact rule i t s _ _ ⟨.int (g i),H,I.tok _,⟨_,rfl⟩,q⟩
theorem un_neg : UnR X (unaryOp .USub) (rU fun i => .int (-i)):=unI fun _ _ _ _ _ q => neg_int q
end
noncomputable def scal : V -> V -> Bool
 | .non,.non => true | .non,.int _ => true | .int _,.non => true | .non,.bl _ => true | .bl _,.non => true | .non,.str _ => true | .str _,.non => true
 | .int _,.int _ => true | .bl _,.bl _ => true | .str _,.str _ => true | .byt _,.byt _ => true
 | .int _,.str _ => true | .str _,.int _ => true | .bl _,.str _ => true | .str _,.bl _ => true
 | _,_ => false
def rEq : R2:=fun x y H Q => scal x y = true /\ Q (.bl (decide (x = y))) H
def rNe : R2:=fun x y H Q => scal x y = true /\ Q (.bl (!decide (x = y))) H
theorem dec_int {i j : Int} : decide (V.int i = V.int j) = (i == j):=by
 rw [Bool.eq_iff_iff]
 simp
theorem dec_bl {i j : Bool} : decide (V.bl i = V.bl j) = (i == j):=by
 rw [Bool.eq_iff_iff]
 simp
theorem dec_str {i j : Str} : decide (V.str i = V.str j) = (i == j):=by
 rw [Bool.eq_iff_iff]
 simp
theorem dec_byt {i j : Array UInt8} : decide (V.byt i = V.byt j) = (i.toList == j.toList):=by
 rw [Bool.eq_iff_iff]
 cases i
 cases j
 simp
section
variable {X : Cx} {a b c : Expr} {ta tb tc : TE} {pos : Pos}
theorem fin_bl {pins : List (Addr × Obj)} {σ : St} {H : Hp} {s : Shared} {Q : VK} {k k' : Bool} (I : Inv X pins σ H s) (q : Q (.bl k) H) (e : k = k') : EP X pins σ Q (.bool k') s:=by
 subst e
 exact ⟨.bl k,H,I,rfl,q⟩
theorem op_eq : OpR X (compareOp .Eq) rEq:=by
 intro pins s σ H x y v u Q I rx ry h
 obtain ⟨hs,q⟩:=h
 cases x with
 | non =>
  cases rx
  cases y with
  | non => cases ry; exact PySem.EqNone.eq_none_none (fin_bl I q (by simp))
  | bl j => cases ry; exact PySem.EqNone.eq_none_bool (fin_bl I q (by simp))
  | int j => obtain ⟨t',rfl⟩:=ry; exact PySem.EqNone.eq_none_int (fin_bl I q (by simp))
  | str j => obtain ⟨t',rfl⟩:=ry; exact PySem.EqNone.eq_none_str (fin_bl I q (by simp))
  | _ => exact absurd (show false = true from hs) Bool.false_ne_true
 | bl i =>
  cases rx
  cases y with
  | non => cases ry; exact PySem.EqNone.eq_bool_none (fin_bl I q (by simp))
  | bl j => cases ry; exact eq_bool (fin_bl I q dec_bl)
  | str j => obtain ⟨t',rfl⟩:=ry; exact PySem.EqMixed.eq_bool_str (fin_bl I q (by simp))
  | _ => exact absurd (show false = true from hs) Bool.false_ne_true
 | int i =>
  obtain ⟨t,rfl⟩:=rx
  cases y with
  | non => cases ry; exact PySem.EqNone.eq_int_none (fin_bl I q (by simp))
  | int j => obtain ⟨t',rfl⟩:=ry; exact eq_int (fin_bl I q dec_int)
  | str j => obtain ⟨t',rfl⟩:=ry; exact PySem.EqMixed.eq_int_str (fin_bl I q (by simp))
  | _ => exact absurd (show false = true from hs) Bool.false_ne_true
 | str i =>
  obtain ⟨t,rfl⟩:=rx
  cases y with
  | non => cases ry; exact PySem.EqNone.eq_str_none (fin_bl I q (by simp))
  | bl j => cases ry; exact PySem.EqMixed.eq_str_bool (fin_bl I q (by simp))
  | int j => obtain ⟨t',rfl⟩:=ry; exact PySem.EqMixed.eq_str_int (fin_bl I q (by simp))
  | str j => obtain ⟨t',rfl⟩:=ry; exact eq_str (fin_bl I q dec_str)
  | _ => exact absurd (show false = true from hs) Bool.false_ne_true
 | byt i =>
  obtain ⟨t,rfl⟩:=rx
  cases y with
  | byt j => obtain ⟨t',rfl⟩:=ry; exact PySem.W.eq_bytes (fin_bl I q dec_byt)
  | _ => exact absurd (show false = true from hs) Bool.false_ne_true
 | _ => cases y <;> exact absurd (show false = true from hs) Bool.false_ne_true
theorem op_ne : OpR X (compareOp .NotEq) rNe:=by
 intro pins s σ H x y v u Q I rx ry h
 obtain ⟨hs,q⟩:=h
 cases x with
 | non =>
  cases rx
  cases y with
  | non => cases ry; exact PySem.EqNone.ne_none_none (fin_bl I q (by simp))
  | bl j => cases ry; exact PySem.EqNone.ne_none_bool (fin_bl I q (by simp))
  | int j => obtain ⟨t',rfl⟩:=ry; exact PySem.EqNone.ne_none_int (fin_bl I q (by simp))
  | str j => obtain ⟨t',rfl⟩:=ry; exact PySem.EqNone.ne_none_str (fin_bl I q (by simp))
  | _ => exact absurd (show false = true from hs) Bool.false_ne_true
 | bl i =>
  cases rx
  cases y with
  | non => cases ry; exact PySem.EqNone.ne_bool_none (fin_bl I q (by simp))
  | bl j => cases ry; exact ne_bool (fin_bl I q (congrArg not dec_bl))
  | str j => obtain ⟨t',rfl⟩:=ry; exact PySem.EqMixed.ne_bool_str (fin_bl I q (by simp))
  | _ => exact absurd (show false = true from hs) Bool.false_ne_true
 | int i =>
  obtain ⟨t,rfl⟩:=rx
  cases y with
  | non => cases ry; exact PySem.EqNone.ne_int_none (fin_bl I q (by simp))
  | int j => obtain ⟨t',rfl⟩:=ry; exact ne_int (fin_bl I q (congrArg not dec_int))
  | str j => obtain ⟨t',rfl⟩:=ry; exact PySem.EqMixed.ne_int_str (fin_bl I q (by simp))
  | _ => exact absurd (show false = true from hs) Bool.false_ne_true
 | str i =>
  obtain ⟨t,rfl⟩:=rx
  cases y with
  | non => cases ry; exact PySem.EqNone.ne_str_none (fin_bl I q (by simp))
  | bl j => cases ry; exact PySem.EqMixed.ne_str_bool (fin_bl I q (by simp))
  | int j => obtain ⟨t',rfl⟩:=ry; exact PySem.EqMixed.ne_str_int (fin_bl I q (by simp))
  | str j => obtain ⟨t',rfl⟩:=ry; exact ne_str (fin_bl I q (congrArg not dec_str))
  | _ => exact absurd (show false = true from hs) Bool.false_ne_true
 | byt i =>
  obtain ⟨t,rfl⟩:=rx
  cases y with
  | byt j => obtain ⟨t',rfl⟩:=ry; exact PySem.W.ne_bytes (fin_bl I q (congrArg not dec_byt))
  | _ => exact absurd (show false = true from hs) Bool.false_ne_true
 | _ => cases y <;> exact absurd (show false = true from hs) Bool.false_ne_true
theorem op_lt : OpR X (compareOp .Lt) (rI0 fun i j => .bl (decide (i < j))):=opB0 fun _ _ _ _ _ _ _ q => lt_int q
theorem op_gt : OpR X (compareOp .Gt) (rI0 fun i j => .bl (decide (j < i))):=opB0 fun _ _ _ _ _ _ _ q => gt_int q
theorem op_in_str : OpR X (compareOp .In) (fun x y H Q => ∃ i j,x = .str i /\ y = .str j /\ Q (.bl (!(Builtin.Str.occurrences j i 0 j.length 1).isEmpty)) H):=by
 intro pins s σ H x y v u Q I rx ry h
 obtain ⟨i,j,rfl,rfl,q⟩:=h
 obtain ⟨t,rfl⟩:=rx
 obtain ⟨t',rfl⟩:=ry
 exact in_str (fin_bl I q rfl)
theorem op_isN : OpR X (compareOp .Is) (fun x y H Q => y = .non /\ Q (.bl (decide (x = .non))) H):=by
 intro pins s σ H x y v u Q I rx ry h
 obtain ⟨rfl,q⟩:=h
 cases ry
 refine is_none_gen (fin_bl I q ?_)
 cases x <;> first
  | (cases rx; rfl)
  | (obtain ⟨t,rfl⟩:=rx; rfl)
theorem op_notin_str : OpR X (compareOp .NotIn) (fun x y H Q => ∃ i j,x = .str i /\ y = .str j /\ Q (.bl (!(!(Builtin.Str.occurrences j i 0 j.length 1).isEmpty))) H):=by
 intro pins s σ H x y v u Q I rx ry h
 obtain ⟨i,j,rfl,rfl,q⟩:=h
 obtain ⟨t,rfl⟩:=rx
 obtain ⟨t',rfl⟩:=ry
 exact notIn_str (fin_bl I q rfl)
theorem OpR.or {f : Value -> Value -> Sem Value} {r r' : R2} (h : OpR X f r) (h' : OpR X f r') : OpR X f (fun x y H Q => r x y H Q \/ r' x y H Q):=by
 intro pins s σ H x y v u Q I rx ry q
 rcases q with q | q
 ·
  exact h pins s σ H x y v u Q I rx ry q
 ·
  exact h' pins s σ H x y v u Q I rx ry q
theorem nomark (b : Expr) {op : CmpOp} (h : op ≠ .In:=by decide) (h2 : op ≠ .NotIn:=by decide) : behindInMarks op b = false:=by
 have e1 : (op == CmpOp.In) = false:=by cases op <;> first | rfl | exact absurd rfl h
 have e2 : (op == CmpOp.NotIn) = false:=by cases op <;> first | rfl | exact absurd rfl h2
 cases b <;> simp [behindInMarks,e1,e2]
theorem pe_cmpR {op : CmpOp} {r : R2} (ho : OpR X (compareOp op) r) (ha : PE X a ta) (hb : PE X b tb) (hm : behindInMarks op b = false) : PE X (.Compare a [op] [b] pos) (tOp r ta tb):=by
 intro pins s σ H Q I h
 exact wpAny_Compare1 (binT ha hb I h fun v u s2 x y H2 I2 rx ry q => ho pins s2 σ H2 x y v u Q I2 rx ry q) hm
def tTest (t : TE) : TT:=fun σ H Q => t σ H fun x H' => ∃ k,x = .bl k /\ Q k H'
theorem pt_cmpR {op : CmpOp} {r : R2} (ho : OpR X (compareOp op) r) (ha : PE X a ta) (hb : PE X b tb) (hm : behindInMarks op b = false) : PT X (.Compare a [op] [b] pos) (tTest (tOp r ta tb)):=by
 intro pins s σ H Q I h
 refine wpAny_isTrue_Compare1 (thn (ha pins s σ H _ I h) fun v s1 ⟨x,H1,I1,r1,q1⟩ => thn (hb pins s1 σ H1 _ I1 q1) fun u s2 ⟨y,H2,I2,r2,q2⟩ =>
  thn (ho pins s2 σ H2 x y v u _ I2 r1 r2 q2) fun c s3 ⟨z,H3,I3,r3,k,e,q3⟩ => ?_) hm
 subst e
 cases r3
 exact wpAny_truthy_bool ⟨H3,I3,q3⟩
def TruV (K : PySem.W.Frag) (x : V) (H : Hp) (k : Bool) : Prop :=
 match x with
 | .non => k = false
 | .bl b => k = b
 | .int i => k = (i != 0)
 | .str y => y.length <= sizeLine /\ k = ((y.length : Int) != 0)
 | .byt y => y.size <= sizeLine /\ k = ((y.size : Int) != 0)
 | .ref p => (∃ xs,SqL K H p xs /\ k = !xs.isEmpty) \/ (∃ xs,SqT K H p xs /\ k = !xs.isEmpty) \/ ∃ kvs,H p = some (.dK kvs) /\ k = !kvs.isEmpty
 | _ => False
theorem isEmpty_kv {κ : Type} {kvs : List (κ × V)} {vs : List (κ × Value)} (r : KV kvs vs) : (!vs.isEmpty) = !kvs.isEmpty:=by
 cases r <;> rfl
theorem isEmpty_of {xs : List V} {its : List Value} (r : Vals xs its) : (!its.toArray.isEmpty) = !xs.isEmpty:=by
 cases r <;> simp
theorem line63 : (sizeLine : Nat) < 2 ^ 63:=by rw [sizeLine_eq]; decide
theorem tru_ok : TruR X (fun x H Q => ∃ k,TruV X.K x H k /\ Q k H):=by
 intro pins s σ H x v Q I rx h
 obtain ⟨k,e,q⟩:=h
 have hl:=line63
 have hs : sizeLine = 16777216:=sizeLine_eq
 cases x with
 | non =>
  cases rx
  have e' : k = false:=e
  subst e'
  exact truthy_none ⟨H,I,q⟩
 | bl b =>
  cases rx
  have e' : k = b:=e
  subst e'
  exact wpAny_truthy_bool ⟨H,I,q⟩
 | int i =>
  obtain ⟨t,rfl⟩:=rx
  have e' : k = (i != 0):=e
  subst e'
  exact PySem.P.truthy_int ⟨H,I,q⟩
 | str y =>
  obtain ⟨t,rfl⟩:=rx
  obtain ⟨hy,e'⟩ : y.length <= sizeLine /\ k = ((y.length : Int) != 0):=e
  subst e'
  exact PySem.P.truthy_str (by omega) ⟨H,I.tok _,q⟩
 | byt y =>
  obtain ⟨t,rfl⟩:=rx
  obtain ⟨hy,e'⟩ : y.size <= sizeLine /\ k = ((y.size : Int) != 0):=e
  subst e'
  exact PySem.W.truthy_bytes (by omega) ⟨H,I.tok _,q⟩
 | ref p =>
  cases rx
  have e' : (∃ xs,SqL X.K H p xs /\ k = !xs.isEmpty) \/ (∃ xs,SqT X.K H p xs /\ k = !xs.isEmpty) \/ ∃ kvs,H p = some (.dK kvs) /\ k = !kvs.isEmpty:=e
  rcases e' with ⟨xs,hx,e'⟩ | ⟨xs,hx,e'⟩ | ⟨kvs,hx,e'⟩
  ·
   subst e'
   obtain ⟨its,r,pl,hz⟩:=I.list hx
   have hlen:=r.length
   exact wpAny_truthy_list pl.isList (by simp only [List.size_toArray]; omega) ⟨H,I.tok _,by rw [isEmpty_of r]; exact q⟩
  ·
   subst e'
   obtain ⟨its,r,pl,hz⟩:=I.tuple hx
   have hlen:=r.length
   exact truthy_tuple pl (by simp only [List.size_toArray]; omega) ⟨H,I.tok _,by rw [isEmpty_of r]; exact q⟩
  ·
   subst e'
   obtain ⟨hz,hS,vs,r,m⟩ : kvs.length <= sizeLine /\ (p == sysModules) = false /\ ∃ vs,KV kvs vs /\ s.heap.DictOf (mixKind X.prog X.w) p vs:=I.hok p _ hx
   have hlen : kvs.length = vs.length:=Paired.length r
   exact wpAny_truthy_dict hS m (by omega) ⟨H,I.tok _,by rw [isEmpty_kv r]; exact q⟩
 | _ => exact (show False from e).elim
theorem op_add_str : OpR X (binaryOp .Add) (fun x y H Q => ∃ i j,x = .str i /\ y = .str j /\ i.length + j.length <= sizeLine /\ Q (.str (i ++ j)) H):=by
 intro pins s σ H x y v u Q I rx ry h
 obtain ⟨i,j,rfl,rfl,hz,q⟩:=h
 obtain ⟨t,rfl⟩:=rx
 obtain ⟨t',rfl⟩:=ry
 exact add_str (fun t' tk => ⟨.str (i ++ j),H,I.tok _,⟨_,rfl⟩,q⟩) hz
theorem vals1 {x : V} {us : List Value} (r : Vals [x] us) : ∃ u,us = [u] /\ RelV x u:=by
 cases r with
 | cons r1 r2 => cases r2; exact ⟨_,rfl,r1⟩
theorem vals2 {x y : V} {us : List Value} (r : Vals [x,y] us) : ∃ u w',us = [u,w'] /\ RelV x u /\ RelV y w':=by
 cases r with
 | cons r1 r2 =>
  cases r2 with
  | cons r3 r4 => cases r4; exact ⟨_,_,rfl,r1,r3⟩
theorem call_int1 : CallR X (.type "int") (fun xs H Q => (∃ i,xs = [.int i] /\ Q (.int i) H) \/ ∃ k,xs = [.bl k] /\ Q (.int (if k then 1 else 0)) H):=by
 intro pins s σ H xs us Q I r h
 rcases h with ⟨i,rfl,q⟩ | ⟨k,rfl,q⟩
 ·
  obtain ⟨u,rfl,t,rfl⟩:=vals1 r
  exact call_int_int ⟨.int i,H,I,⟨_,rfl⟩,q⟩
 ·
  obtain ⟨u,rfl,r1⟩:=vals1 r
  cases r1
  exact call_int_bool ⟨.int (if k then 1 else 0),H,I.tok _,⟨_,rfl⟩,q⟩
end
end L2
namespace L2
open PySem PySem.Spec PyProof.Rows
structure ObjM (h : Heap) (x dx C : Addr) (mA : Str -> Option Value) : Prop where
 obj : h.get? x = some (PySem.W.instObj C dx)
 ns : h.Ns1 dx mA
 ne : dx ≠ x
theorem lookIn_ns {h : Heap} {dx : Addr} {mA : Str -> Option Value} (n : h.Ns1 dx mA) : ∃ od,h.get? dx = some od /\ ∀ name,PySem.W.lookIn name od = some (mA name):=by
 obtain ⟨o,es,ep,ho,hd,hk,_,hm⟩:=n
 refine ⟨o,ho,fun name => ?_⟩
 have e:=hm name
 unfold nsFind findBy at e
 rw [<- Array.find?_toList] at e
 unfold PySem.W.lookIn
 rw [hd]
 dsimp only
 split
 ·
  rename_i y q
  rw [q] at e
  exact congrArg some e
 ·
  rename_i q
  rw [q] at e
  have a : es.toList.any (·.refKey) = false:=by
   rw [List.any_eq_false]
   intro y hy
   obtain ⟨z,t,hkey⟩:=hk y (Array.mem_toList_iff.mp hy)
   simp [DictEntry.refKey,hkey]
  have a' : ¬ es.toList.any (·.refKey) = true:=by rw [a]; exact Bool.false_ne_true
  rw [if_neg a']
  exact congrArg some e
theorem ObjM.look {h : Heap} {x dx C : Addr} {mA : Str -> Option Value} (I : ObjM h x dx C mA) : ∃ od,PySem.W.InstAt h x (PySem.W.instObj C dx) C (some od) /\ ∀ name,PySem.W.lookIn name od = some (mA name) :=
 let ⟨od,ho,hl⟩:=lookIn_ns I.ns
 ⟨od,⟨I.obj,rfl,rfl,ho⟩,hl⟩
section
variable {prog : Program} {w : World} {A : Around} {E : Value -> Shared -> Prop} {s : Shared} {K : PySem.W.Frag} {x dx C f : Addr} {mA : Str -> Option Value} {name : Str} {v : Value}
end
theorem RelO.some_of {v : V} {o : Option Value} (r : RelO (some v) o) : ∃ u,o = some u /\ RelV v u:=by
 cases o with
 | none => exact (show False from r).elim
 | some u => exact ⟨u,rfl,r⟩
section
variable {P : Program} {w : World} {H H' : Hp} {h h' : Heap} {a C dx : Addr} {fs fs' : List (Str × V)}
theorem ins_get (hok : HOk P w H h) (e : H a = some (.ins C dx fs)) : ∃ mA,ObjM h a dx C mA /\ (∀ f,RelO (fs.lookup f) (mA f)) /\ PySem.Within mA (fs.map (·.1)) /\ fs.length <= 1000 /\ H dx = some (.own a):=by
 obtain ⟨d,z,ne,ob,mA,n,r,q⟩:=(show ObjOk P w H h a (.ins C dx fs) from hok a _ e)
 exact ⟨mA,⟨ob,n,ne⟩,r,q,z,d⟩
end
structure Cls (K : PySem.W.Frag) (C : Addr) : Prop where
 pg : PySem.W.plainGet K C Str.empty = true
 hd : PySem.W.hasDictIn K C = true
 po : PySem.W.plainOver K C = true
 sa : PySem.W.findIn K (.ref C) "__setattr__" = some (some (.builtin "object.__setattr__"))
theorem Cls.get {K : PySem.W.Frag} {C : Addr} (c : Cls K C) (f : Str) : PySem.W.plainGet K C f = true:=c.pg
section
variable {X : Cx} {pins : List (Addr × Obj)} {σ : St} {H : Hp} {s : Shared} {a C dx : Addr} {fs : List (Str × V)} {f : Str} {v : V} {A : Around} {E : Value -> Shared -> Prop}
theorem Inv.made (I : Inv X pins σ H s) : Inv X pins σ (upd (upd H s.heap.objs.size (.own (s.heap.objs.size + 1))) (s.heap.objs.size + 1) (.ins C s.heap.objs.size []))
  { s with heap:=(s.heap.push PySem.W.emptyDict).push (PySem.W.instObj C s.heap.objs.size) }:=by
 have e1 : (s.heap.push PySem.W.emptyDict).get? s.heap.objs.size = some PySem.W.emptyDict:=Heap.get?_push_size s.heap rfl
 have e2 : ((s.heap.push PySem.W.emptyDict).push (PySem.W.instObj C s.heap.objs.size)).get? (s.heap.objs.size + 1) = some (PySem.W.instObj C s.heap.objs.size):=by
  have:=Heap.get?_push_size (s.heap.push PySem.W.emptyDict) (o:=PySem.W.instObj C s.heap.objs.size) rfl
  rwa [Heap.size_push] at this
 have e3 : (s.heap.push PySem.W.emptyDict).Ns s.heap.objs.size (fun _ => none):=⟨PySem.W.emptyDict,#[],_,e1,rfl,(fun e he => absurd he (by simp)),fun _ => rfl⟩
 have I1:=I.laid (a:=s.heap.objs.size) (o:=.own (s.heap.objs.size + 1)) (h':=s.heap.push PySem.W.emptyDict) (t':=s.toks) (fun b u q => Heap.get?_push_of_some _ q) (Nat.le_refl _) ⟨_,e1⟩
 refine I1.laid (a:=s.heap.objs.size + 1) (o:=.ins C s.heap.objs.size []) (t':=s.toks) (fun b u q => Heap.get?_push_of_some _ q) (Nat.le_of_eq (Heap.size_push _ _)) ?_
 have ne : s.heap.objs.size ≠ s.heap.objs.size + 1:=Nat.ne_of_lt (Nat.lt_succ_self _)
 refine ⟨by rw [upd_ne ne,upd_same],Nat.zero_le _,ne,e2,fun _ => none,(Heap.Ns1.of_empty e3).at fun o q => Heap.get?_push_of_some _ q,fun _ => True.intro,fun y hy => absurd rfl hy⟩
end
section
variable {X : Cx} {o e value : Expr} {f : Str} {pos pos' tpos : Pos} {ta tv : TE}
end
section
variable {X : Cx} {pins : List (Addr × Obj)} {σ : St} {H : Hp} {s : Shared} {A : Around} {E : Value -> Shared -> Prop} {Q : Value -> Shared -> Prop} {c : Value} {b : Bool}
inductive TyOf (K : PySem.W.Frag) (H : Hp) : V -> Value -> Prop where
 | non : TyOf K H .non (.type "NoneType")
 | bl (x : Bool) : TyOf K H (.bl x) (.type "bool")
 | int (i : Int) : TyOf K H (.int i) (.type "int")
 | str (x : Str) : TyOf K H (.str x) (.type "str")
 | flt (x : UInt64) : TyOf K H (.flt x) (.type "float")
 | lst {a : Addr} {xs : List V} (e : H a = some (.lst xs)) : TyOf K H (.ref a) (.type "list")
 | frz {a : Addr} {o : Obj} {xs : List V} (e : H a = some (.frz o (.lst xs))) : TyOf K H (.ref a) (.type "list")
 | tup {a : Addr} {xs : List V} (e : H a = some (.tup xs)) : TyOf K H (.ref a) (.type "tuple")
 | dK {a : Addr} {kvs : List (Key × V)} (e : H a = some (.dK kvs)) : TyOf K H (.ref a) (.type "dict")
 | dT {a : Addr} {kvs : List (List Key × V)} (e : H a = some (.dT kvs)) : TyOf K H (.ref a) (.type "dict")
 | ins {a C dx : Addr} {fs : List (Str × V)} (e : H a = some (.ins C dx fs)) (cl : Cls K C) (ha : PySem.W.findIn K (.ref C) "__class__" = some (some (.builtin "object.__class__")))
   (hn : PySem.W.specialIn K (.builtin "object.__class__") "__get__" = some (some (.builtin "getset_descriptor.__get__"))) (htk : PySem.W.takesIn K (.builtin "object.__class__") = some true)
   (hm : PySem.W.mroIn K C (.type "object") = some true) : TyOf K H (.ref a) (.ref C)
theorem isinst_ok {x : V} {u t : Value} (I : Inv X pins σ H s) (rx : RelV x u) (ty : TyOf X.K H x t) (e : PySem.W.kitOne X.K t c = some b) (h : ∀ tk,Q (.bool b) { s with toks:=tk }) :
  wpAny (model X.prog X.w) A (call (.builtin "isinstance") [u,c]) Q E s:=by
 cases ty with
 | non => cases (show u = Value.none from rx); exact PySem.W.kia_one PySem.W.kitx_none I.kIn True.intro e (fun z => nomatch z) h
 | bl y => cases (show u = Value.bool y from rx); exact PySem.W.kia_one PySem.W.kitx_bool I.kIn True.intro e (fun z => nomatch z) h
 | int i => obtain ⟨t,q⟩:=(show ∃ t,u = Value.int i t from rx); cases q; exact PySem.W.kia_one PySem.W.kitx_int I.kIn True.intro e (fun z => nomatch z) h
 | str y => obtain ⟨t,q⟩:=(show ∃ t,u = Value.str y t from rx); cases q; exact PySem.W.kia_one PySem.W.kitx_str I.kIn True.intro e (fun z => nomatch z) h
 | flt y => obtain ⟨t,q⟩:=(show ∃ t,u = Value.float y t from rx); cases q; exact PySem.W.kia_one PySem.W.kitx_float I.kIn True.intro e (fun z => nomatch z) h
 | @lst a xs ea =>
  cases (show u = Value.ref a from rx)
  obtain ⟨_,_,n,_,h1⟩:=(show ObjOk X.prog X.w H s.heap a (.lst xs) from I.hok a _ ea)
  exact PySem.W.kia_one PySem.W.kitx_list I.kIn ⟨_,h1,rfl⟩ e (fun z => nomatch z) h
 | @frz a ob xs ea =>
  cases (show u = Value.ref a from rx)
  obtain ⟨_,_,_,n,_,h1⟩:=(show ObjOk X.prog X.w H s.heap a (.frz ob (.lst xs)) from I.hok a _ ea)
  exact PySem.W.kia_one PySem.W.kitx_list I.kIn ⟨_,h1,rfl⟩ e (fun z => nomatch z) h
 | @tup a xs ea =>
  cases (show u = Value.ref a from rx)
  obtain ⟨_,_,_,p⟩:=(show ObjOk X.prog X.w H s.heap a (.tup xs) from I.hok a _ ea)
  obtain ⟨o,h1,h2,_⟩:=p
  exact PySem.W.kia_one PySem.W.kitx_tuple I.kIn ⟨o,h1,h2⟩ e (fun z => nomatch z) h
 | @dK a kvs ea =>
  cases (show u = Value.ref a from rx)
  obtain ⟨_,_,vs,_,p⟩:=(show ObjOk X.prog X.w H s.heap a (.dK kvs) from I.hok a _ ea)
  obtain ⟨o,es,ep,h1,h2,_⟩:=p
  exact PySem.W.kia_one PySem.W.kitx_dict I.kIn ⟨o,h1,h2.1⟩ e (fun z => nomatch z) h
 | @dT a kvs ea =>
  cases (show u = Value.ref a from rx)
  obtain ⟨_,_,xs,_,o,es,ep,h1,h2,_⟩:=(show ObjOk X.prog X.w H s.heap a (.dT kvs) from I.hok a _ ea)
  exact PySem.W.kia_one PySem.W.kitx_dict I.kIn ⟨o,h1,h2.1⟩ e (fun z => nomatch z) h
 | @ins a C dx fs ea cl ha hn htk hm =>
  cases (show u = Value.ref a from rx)
  obtain ⟨mA,O,_⟩:=ins_get I.hok ea
  obtain ⟨od,J,_⟩:=O.look
  exact PySem.W.kia_one (PySem.W.kitx_own (cl.get _) cl.hd ha hn htk hm) I.kIn J e (fun z => nomatch z) h
end
end L2
namespace L2
open PySem PySem.Spec PyProof.Rows
structure Room (k : Nat) (A : Around) : Prop where
 hd : A.handled = none
 dp : A.depth + 3 * k + 5 < recursionLimit
 un : A.units + 16 * k + 200 < cLine
 gd : A.guards = some []
theorem Room.mono {j k : Nat} {A : Around} (r : Room k A) (h : j <= k) : Room j A:=⟨r.hd,by have:=r.dp; omega,by have:=r.un; omega,r.gd⟩
theorem Room.deeper {k : Nat} {A : Around} (r : Room (k + 1) A) (env : Env) : Room k (A.deeper env) :=
 ⟨r.hd,by have:=r.dp; show A.depth + 1 + 3 * k + 5 < _; omega,by have:=r.un; show A.units + 3 + 16 * k + 200 < _; omega,r.gd⟩
theorem Room.in1 {k : Nat} {A : Around} (r : Room (k + 1) A) : Room k A.in1 :=
 ⟨r.hd,by have:=r.dp; show A.depth + 3 * k + 5 < _; omega,by have:=r.un; show A.units + 1 + 16 * k + 200 < _; omega,r.gd⟩
theorem Room.depth {k : Nat} {A : Around} (r : Room k A) : A.depth < recursionLimit:=by have:=r.dp; omega
theorem Room.units {k : Nat} {A : Around} (r : Room k A) : A.units + 64 < cLine:=by have:=r.un; omega
def tNil : TA:=fun _ H Q => Q [] H
def tCons (ta : TE) (tr : TA) : TA:=fun σ H Q => ta σ H fun x H1 => tr σ H1 fun xs H2 => Q (x :: xs) H2
section
variable {X : Cx} {e : Expr} {es : List Expr} {te : TE} {t : TA} {pos : Pos}
theorem pa_nil : PA X [] tNil:=fun _ _ _ _ H Q I h => Calls.spliced_nil ⟨[],H,I,.nil,h⟩
theorem pa_cons (ha : PE X e te) (hr : PA X es t) (hs : starEach (e :: es) X.env = (false,eval e X.env) :: starEach es X.env:=by rfl) : PA X (e :: es) (tCons te t):=by
 intro pos pins s σ H Q I h
 rw [hs]
 show wpAny _ _ (spliced ((false,eval e X.env) :: backTo pos (starEach es X.env))) _ _ s
 refine Calls.spliced_cons (thn (ha pins s σ H _ I h) fun u s1 ⟨x,H1,I1,r1,q1⟩ => ?_)
 exact thn (hr pos pins s1 σ H1 _ I1 q1) fun us s2 ⟨xs,H2,I2,r2,q2⟩ => ⟨x :: xs,H2,I2,.cons r1 r2,q2⟩
def tTup (t : TA) : TE:=fun σ H Q => t σ H fun xs H1 => xs.length <= sizeLine /\ ∀ p,H1 p = none -> Q (.ref p) (upd H1 p (.tup xs))
def tLst (t : TA) : TE:=fun σ H Q => t σ H fun xs H1 => xs.length <= sizeLine /\ ∀ p,H1 p = none -> Q (.ref p) (upd H1 p (.lst xs))
theorem pe_tup {x1} (h : PA X es t) : PE X (.Tuple es x1 pos) (tTup t):=by
 intro pins s σ H Q I hq
 refine wpAny_Tuple_spliced (thn (h pos pins s σ H _ I hq) fun us s1 ⟨xs,H1,I1,r,z,q⟩ => ⟨by rw [<- r.length]; exact z,?_⟩)
 have hf : H1 s1.heap.objs.size = none:=I1.hok.fresh (Nat.le_refl _)
 refine ⟨.ref s1.heap.objs.size,upd H1 s1.heap.objs.size (.tup xs),I1.laid (t':=s1.toks) (fun b u e => Heap.get?_push_of_some _ e) (Nat.le_refl _) ?_,rfl,q _ hf⟩
 exact ⟨z,us,r,⟨_,Heap.get?_push_size _ rfl,rfl,_,rfl,rfl⟩⟩
theorem pe_lst (h : PA X es t) : PE X (.List es pos) (tLst t):=by
 intro pins s σ H Q I hq
 refine wpAny_List_spliced (thn (h pos pins s σ H _ I hq) fun us s1 ⟨xs,H1,I1,r,z,q⟩ => ⟨by rw [<- r.length]; exact z,?_⟩)
 have hf : H1 s1.heap.objs.size = none:=I1.hok.fresh (Nat.le_refl _)
 refine ⟨.ref s1.heap.objs.size,upd H1 s1.heap.objs.size (.lst xs),I1.laid (t':=s1.toks) (fun b u e => Heap.get?_push_of_some _ e) (Nat.le_refl _) ?_,rfl,q _ hf⟩
 exact ⟨z,us,0,r,Heap.get?_push_size _ rfl⟩
end
abbrev Sp:=List V -> Hp -> VK -> XK -> Prop
abbrev CXT:=List Env -> Hp -> Shared -> XK -> Value -> Shared -> Prop
structure Env0 (P : Program) (w : World) (K : PySem.W.Frag) (mg : Str -> Option Value) (base : Heap) (A : Around) (outer : List Env) (s : Shared) (H : Hp) : Prop where
 frames : A.frames = some outer
 mod : Mod K mg base
 bs : ∀ b o,base.get? b = some o -> s.heap.get? b = some o /\ H b = none
 bsz : base.objs.size <= s.heap.objs.size
 funs : s.heap.FunFrames base outer
 frf : ∀ b ∈ frs outer,H b = none
 hok : HOk P w H s.heap
 bare : AllBare s.gens
def CE (outer : List Env) (P : Program) (w : World) (H : Hp) (s : Shared) (Q : VK) (u : Value) (s' : Shared) : Prop :=
 ∃ v H',s'.os = s.os /\ AllBare s'.gens /\ Un (frs outer) [] H H' s.heap s'.heap /\ HOk P w H' s'.heap /\ RelV v u /\ Q v H'
def CR (CX : CXT) (outer : List Env) (P : Program) (w : World) (H : Hp) (s : Shared) (Q : VK) (E : XK) (r : Result) (s' : Shared) : Prop :=
 match r with
 | .ok (.ret u) => CE outer P w H s Q u s'
 | .ok _ => False
 | .error e => CX outer H s E e s'
structure FnOk (P : Program) (w : World) (K : PySem.W.Frag) (mg : Str -> Option Value) (base : Heap) (CX : CXT) (k : Nat) (f : Addr) (fd : FuncData) (ps : List Str) (sp : Sp) : Prop where
 len : ∀ vs H Q E,sp vs H Q E -> vs.length = ps.length
 run : ∀ (A : Around) (outer : List Env) (s : Shared) (H : Hp) (args : Args) (us : List Value) (vs : List V) (Q : VK) (E : XK),Room k A -> Env0 P w K mg base A outer s H -> BindsTo s fd args (ps.zip us) -> Vals vs us -> sp vs H Q E ->
  codeAny (model P w) A (.call (.ref f) args) (CR CX outer P w H s Q E) s
theorem FnOk.mono {P : Program} {w : World} {K : PySem.W.Frag} {mg : Str -> Option Value} {base : Heap} {CX : CXT} {j k : Nat} {f : Addr} {fd : FuncData} {ps : List Str} {sp : Sp} (F : FnOk P w K mg base CX j f fd ps sp) (h : j <= k) :
  FnOk P w K mg base CX k f fd ps sp:=⟨F.len,fun A outer s H args us vs Q E hr => F.run A outer s H args us vs Q E (hr.mono h)⟩
theorem FnOk.imp {P : Program} {w : World} {K : PySem.W.Frag} {mg : Str -> Option Value} {base : Heap} {CX : CXT} {k : Nat} {f : Addr} {fd : FuncData} {ps : List Str} {sp sp' : Sp} (F : FnOk P w K mg base CX k f fd ps sp)
  (h : ∀ vs H Q E,sp' vs H Q E -> sp vs H Q E) : FnOk P w K mg base CX k f fd ps sp' :=
 ⟨fun vs H Q E q => F.len vs H Q E (h _ _ _ _ q),fun A outer s H args us vs Q E hr he hb hv hs => F.run A outer s H args us vs Q E hr he hb hv (h _ _ _ _ hs)⟩
theorem Env0.in1 {P : Program} {w : World} {K : PySem.W.Frag} {mg : Str -> Option Value} {base : Heap} {A : Around} {outer : List Env} {s : Shared} {H : Hp} (e : Env0 P w K mg base A outer s H) :
  Env0 P w K mg base A.in1 outer s H:=⟨e.frames,e.mod,e.bs,e.bsz,e.funs,e.frf,e.hok,e.bare⟩
section
variable {X : Cx} {pins : List (Addr × Obj)} {σ : St} {H : Hp} {s s' : Shared}
theorem Inv.env0 (I : Inv X pins σ H s) : Env0 X.prog X.w X.K X.mg X.base X.A X.stack s H :=
 ⟨I.ok.frames,I.ok.mod,I.bs,Nat.le_trans I.ok.bsz I.sz,I.stack,I.stkFree,I.hok,I.bare⟩
theorem Inv.after {Q : VK} {u : Value} (I : Inv X pins σ H s) (h : CE X.stack X.prog X.w H s Q u s') : EP X pins σ Q u s':=by
 obtain ⟨v,H',os,bare,un,hok,r,q⟩:=h
 obtain ⟨hh,g,d,t,os'⟩:=s'
 obtain rfl : os' = s.os:=os
 exact ⟨v,H',I.call (h':=hh) (g':=g) (d':=d) (t':=t) (ch:=[]) un hok bare (fun b z => absurd z (by simp)),r,q⟩
end
def tCall (sp : Sp) (dvs : List V) (E : XK) (t : TA) : TE:=fun σ H Q => t σ H fun vs H1 => sp (vs ++ dvs) H1 Q E
def Binds (K : PySem.W.Frag) (fd : FuncData) (ps : List Str) (ds : List Value) : Prop :=
 ∀ (s : Shared) (us : List Value),K.In s.heap -> (us ++ ds).length = ps.length -> BindsTo s fd ⟨us,[]⟩ (ps.zip (us ++ ds))
theorem Binds.all {K : PySem.W.Frag} {fd : FuncData} {ps : List Str} (h : ∀ us : List Value,us.length = ps.length -> bindArgs fd ⟨us,[]⟩ = pure (ps.zip us)) : Binds K fd ps []:=fun s us _ hl => by
 rw [List.append_nil] at hl ⊢
 exact .of_eq (h us hl)
def Passes (CX : CXT) (X : Cx) (E : XK) : Prop:=∀ (pins : List (Addr × Obj)) (σ : St) (H : Hp) (s : Shared) (e : Value) (s' : Shared),Inv X pins σ H s -> CX X.stack H s E e s' -> X.xe e s'
section
variable {X : Cx} {CX : CXT} {k : Nat} {f C : Addr} {fd : FuncData} {ps : List Str} {sp : Sp} {dvs : List V} {ds : List Value} {E : XK} {x m : Str} {p pos apos : Pos} {e o : Expr} {es : List Expr} {ta : TE} {t : TA}
theorem run_fn {pins : List (Addr × Obj)} {σ : St} {H : Hp} {s : Shared} {Q : VK} {us : List Value} {vs : List V} (F : FnOk X.prog X.w X.K X.mg X.base CX k f fd ps sp) (hr : Room k X.A) (hb : Binds X.K fd ps ds) (hd : Vals dvs ds) (hx : Passes CX X E)
  (I : Inv X pins σ H s) (r : Vals vs us) (h : sp (vs ++ dvs) H Q E) : wpAny (model X.prog X.w) X.A (call (.ref f) us) (EP X pins σ Q) X.xe s:=by
 have r2 : Vals (vs ++ dvs) (us ++ ds):=r.append hd
 have hl : (us ++ ds).length = ps.length:=by rw [<- r2.length]; exact F.len _ _ _ _ h
 refine wpAny_call (codeAny_mono (F.run X.A X.stack s H ⟨us,[]⟩ (us ++ ds) (vs ++ dvs) Q E hr I.env0 (hb s us I.kIn hl) r2 h) fun r s' hq => ?_)
 cases r with
 | error e => exact hx pins σ H s e s' I hq
 | ok fl =>
  cases fl with
  | ret u => exact I.after hq
  | next => exact False.elim hq
  | brk => exact False.elim hq
  | cont => exact False.elim hq
theorem pe_call (F : FnOk X.prog X.w X.K X.mg X.base CX k f fd ps sp) (hr : Room k X.A) (hg : Gl X x) (hm : X.mg x = some (.ref f)) (hk : PySem.W.keepIn X.K (.ref f) = true) (hb : Binds X.K fd ps ds) (hd : Vals dvs ds) (hx : Passes CX X E)
  (ha : PA X (e :: es) t) (hdb : (x == ("__debug__" : Str)) = false:=by decide) (he : starEach (e :: es) X.env = (false,eval e X.env) :: starEach es X.env:=by rfl) (hpl : (backTo pos (starEach es X.env)).any (·.1) = false:=by rfl) :
  PE X (.Call (.Name x p) (e :: es) [] pos) (tCall sp dvs E t):=by
 intro pins s σ H Q I h
 refine wpAny_Call_Name_kw (ld_glob I hg hm ?_ hdb)
 refine PySem.W.callWith_K (h₀:=X.base) I.ok.mod.kin hk (thn (ha pos pins s σ H _ I h) fun us s1 ⟨vs,H1,I1,r,q⟩ => ⟨I1.kIn,?_⟩) he hpl
 exact run_fn F hr hb hd hx I1 r q
end
section
variable {X : Cx} {CX : CXT} {k : Nat} {f C : Addr} {fd : FuncData} {ps ks : List Str} {sp : Sp} {E : XK} {x m : Str} {p pos apos kpos : Pos} {e o : Expr} {es : List Expr} {kws : List Keyword} {te ta : TE} {t tk : TA} {nm : Option Str}
variable {g : List Value -> List Value -> List Value} {gV : List V -> List V -> List V}
end
structure FnScope (N P : List Str) (sc : Scope) : Prop where
 kind : sc.kind = .function
 co : sc.isCoroutine = false
 gen : sc.isGenerator = false
 nd : N.Nodup
 pre : N.take P.length = P
 par : ∀ x ∈ P,sc.names.lookup x = some .local \/ sc.names.lookup x = some .cell
 nofree : ∀ y ∈ sc.names,y.2 ≠ .free
theorem bindL_out {kindOf : Str -> Option NameKind} {x : Str} : ∀ {binds : List (Str × Value)} {m : Str -> Option Value},(∀ v,(x,v) ∉ binds) -> bindL kindOf binds m x = m x
 | [],_,_ => rfl
 | (n,v) :: r,m,h => by
  unfold bindL
  rw [bindL_out fun w hw => h w (List.mem_cons_of_mem _ hw)]
  split
  ·
   have : x ≠ n:=by rintro rfl; exact h v List.mem_cons_self
   simp [this]
  ·
   rfl
theorem bindC_out {kindOf : Str -> Option NameKind} {x : Str} : ∀ {binds : List (Str × Value)} {m : Str -> Option Value},(∀ v,(x,v) ∉ binds) -> bindC kindOf binds m x = m x
 | [],_,_ => rfl
 | (n,v) :: r,m,h => by
  unfold bindC
  rw [bindC_out fun w hw => h w (List.mem_cons_of_mem _ hw)]
  split
  ·
   rfl
  ·
   have : x ≠ n:=by rintro rfl; exact h v List.mem_cons_self
   simp [this]
theorem bindL_get {kindOf : Str -> Option NameKind} {x : Str} {v : Value} : ∀ {P : List Str} {vs : List Value} {i : Nat} {m : Str -> Option Value},P.Nodup -> P[i]? = some x -> vs[i]? = some v -> kindOf x = some .local ->
  bindL kindOf (P.zip vs) m x = some v
 | [],_,_,_,_,h,_,_ => by simp at h
 | _ :: _,[],_,_,_,_,h,_ => by simp at h
 | p :: P,w :: vs,0,m,nd,h1,h2,hk => by
  simp at h1 h2; subst h1; subst h2
  show bindL kindOf ((p,w) :: P.zip vs) m p = _
  unfold bindL
  rw [bindL_out fun v hv => (List.nodup_cons.mp nd).1 (List.of_mem_zip hv).1,if_pos hk]
  simp
 | p :: P,w :: vs,i + 1,m,nd,h1,h2,hk => by
  show bindL kindOf ((p,w) :: P.zip vs) m x = _
  unfold bindL
  exact bindL_get (i:=i) (List.nodup_cons.mp nd).2 (by simpa using h1) (by simpa using h2) hk
theorem bindC_get {kindOf : Str -> Option NameKind} {x : Str} {v : Value} : ∀ {P : List Str} {vs : List Value} {i : Nat} {m : Str -> Option Value},P.Nodup -> P[i]? = some x -> vs[i]? = some v -> kindOf x ≠ some .local ->
  bindC kindOf (P.zip vs) m x = some v
 | [],_,_,_,_,h,_,_ => by simp at h
 | _ :: _,[],_,_,_,_,h,_ => by simp at h
 | p :: P,w :: vs,0,m,nd,h1,h2,hk => by
  simp at h1 h2; subst h1; subst h2
  show bindC kindOf ((p,w) :: P.zip vs) m p = _
  unfold bindC
  rw [bindC_out fun v hv => (List.nodup_cons.mp nd).1 (List.of_mem_zip hv).1,if_neg hk]
  simp
 | p :: P,w :: vs,i + 1,m,nd,h1,h2,hk => by
  show bindC kindOf ((p,w) :: P.zip vs) m x = _
  unfold bindC
  exact bindC_get (i:=i) (List.nodup_cons.mp nd).2 (by simpa using h1) (by simpa using h2) hk
noncomputable def start (N : List Str) (vs : List V) : St:=vs.map some ++ List.replicate (N.length - vs.length) none
noncomputable def cxOf (CX : CXT) (P : Program) (w : World) (K : PySem.W.Frag) (mg : Str -> Option Value) (base : Heap) (N : List Str) (qual : Str) (scope : Scope) (f : Addr) (cd : Value) (A : Around) (outer : List Env) (s : Shared) (H : Hp) (E : XK) : Cx where
 prog:=P
 w:=w
 K:=K
 mg:=mg
 base:=base
 A:=A.deeper (envOfC qual scope s.heap.objs.size f cd)
 N:=N
 s₀:=s
 H₀:=H
 env:=envOfC qual scope s.heap.objs.size f cd
 outer:=outer
 stack:=envOfC qual scope s.heap.objs.size f cd :: outer
 ex:=[]
 calm:=true
 fn:=fun _ => true
 pn:=[]
 xe:=fun e s' => wpAny (model P w) (A.deeper (envOfC qual scope s.heap.objs.size f cd)) (leaving (envOfC qual scope s.heap.objs.size f cd) e) (fun _ s'' => CX outer H s E e s'') (fun e' s'' => CX outer H s E e' s'') s'
theorem cell_has {sc : Scope} {n : Nat} {x : Str} (h : sc.names.lookup x = some .cell) : ∃ c,(cellsFrom n sc.names []).lookup x = some c:=by
 have q:=PySem.W.cellsFrom_some sc.names n [] (.inl h)
 exact Option.isSome_iff_exists.mp q
theorem inv_start {CX : CXT} {P : Program} {w : World} {K : PySem.W.Frag} {mg : Str -> Option Value} {base : Heap} {N ps : List Str} {qual : Str} {scope : Scope} {f : Addr} {cd : Value} {A : Around} {outer : List Env} {s s1 : Shared} {H : Hp} {E : XK} {us : List Value} {vs : List V}
  (S : FnScope N ps scope) (hd : A.handled = none) (e0 : Env0 P w K mg base A outer s H) (hl : vs.length = ps.length) (r : Vals vs us)
  (x : InCallC s s.heap.objs.size (bindL (envOfC qual scope s.heap.objs.size f cd).kindOf (ps.zip us) fun _ => none) (cellsFrom (s.heap.objs.size + 1) scope.names []) (bindC (envOfC qual scope s.heap.objs.size f cd).kindOf (ps.zip us) fun _ => none) s1) :
  Inv (cxOf CX P w K mg base N qual scope f cd A outer s H E) [] (start N vs) H s1:=by
 have hpl : ps.length <= N.length:=by have:=congrArg List.length S.pre; rw [List.length_take] at this; omega
 obtain ⟨h1,tk,rfl,hk⟩:=x.done
 have noA : ∀ b : Addr,b ∉ (cxOf CX P w K mg base N qual scope f cd A outer s H E).ex:=fun b z => absurd (show b ∈ ([] : List Addr) from z) (by simp)
 refine ⟨⟨e0.mod,S.kind,rfl,rfl,Nat.le_refl _,fun y z c h1 h2 => ?_,fun y hy => ?_,fun y c _ h => ?_,fun _ => hd,Around.frames_deeper e0.frames,.inr ⟨rfl,rfl⟩,fun b z => absurd z (noA b),e0.bs,e0.bsz,fun b _ _ => noA b,fun b z => absurd z (noA b),e0.funs,e0.frf⟩,
  rfl,e0.bare,Un.kept hk,⟨_,x.toInCall.ns,fun i y v h1 h2 h3 => ?_⟩,fun y c h => ⟨_,x.cell y c h⟩,e0.hok.fresh (Nat.le_refl _),fun y c h => ?_,fun p hp => absurd (show p ∈ ([] : List (Addr × Obj)) from hp) (by simp),e0.hok.kept hk,?_⟩
 ·
  exact name_of_addr x.apart (PySem.mem_of_lookup h1) (PySem.mem_of_lookup h2)
 ·
  have hy : scope.names.lookup y = some .cell \/ scope.names.lookup y = some .free:=hy
  rcases hy with hy | hy
  ·
   exact cell_has hy
  ·
   exact absurd rfl (S.nofree _ (PySem.mem_of_lookup hy))
 ·
  exact Nat.le_of_lt (x.above y c (PySem.mem_of_lookup h))
 ·
  have hi : i < vs.length:=by
   unfold start at h2
   by_cases hi : i < vs.length
   ·
    exact hi
   ·
    rw [List.getElem?_append_right (by simpa using hi)] at h2
    rw [List.getElem?_replicate] at h2
    split at h2 <;> cases h2
  have ha : vs[i]? = some v:=by
   unfold start at h2
   rw [List.getElem?_append_left (by simpa using hi),List.getElem?_map] at h2
   cases e : vs[i]? with
   | none => rw [e] at h2; cases h2
   | some a => rw [e] at h2; cases h2; rfl
  obtain ⟨u,hu,rv⟩:=r.get ha
  have hp : ps[i]? = some y:=by
   rw [<- S.pre,List.getElem?_take_of_lt (by omega)]; exact h1
  have ndP : ps.Nodup:=by rw [<- S.pre]; exact S.nd.sublist (List.take_sublist _ _)
  refine ⟨u,rv,?_⟩
  rcases S.par y (List.mem_of_getElem? hp) with k | k
  ·
   exact .inl ⟨k,bindL_get ndP hp hu k⟩
  ·
   obtain ⟨c,e⟩:=cell_has (n:=s.heap.objs.size + 1) k
   refine .inr ⟨.inl k,c,e,?_⟩
   have q:=x.cell y c e
   rw [bindC_get ndP hp hu (by show scope.names.lookup y ≠ _; rw [k]; decide)] at q
   exact q
 ·
  exact e0.hok.fresh (Nat.le_of_lt (x.above y c (PySem.mem_of_lookup h)))
 ·
  unfold start
  show _ = N.length
  rw [List.length_append,List.length_map,List.length_replicate]
  omega
theorem fn_of {CX : CXT} {P : Program} {w : World} {K : PySem.W.Frag} {mg : Str -> Option Value} {base : Heap} {k : Nat} {f : Addr} {name qual : Str} {params : Arguments} {body : List Stmt} {scope : Scope} {dV kV doc pm cdv ct oc : Value} {an od : Option Addr}
  {osl : Array (Option Value)} {N ps : List Str} {sp : Sp} (lk : K.lookup f = some ⟨oc,od,.func (PySem.W.fnOf name qual params body scope dV kV doc pm an cdv ct),osl⟩) (hcd : PySem.W.codeIn K cdv qual = true) (S : FnScope N ps scope)
  (len : ∀ vs H Q E,sp vs H Q E -> vs.length = ps.length)
  (hbody : ∀ (A : Around) (outer : List Env) (s : Shared) (H : Hp) (vs : List V) (Q : VK) (E : XK),Room k (A.deeper (envOfC qual scope s.heap.objs.size f cdv)) -> sp vs H Q E ->
   ∃ t,PSs (cxOf CX P w K mg base N qual scope f cdv A outer s H E) body t /\ t { nx:=fun _ H' => Q .non H',rt:=Q } (start N vs) H) :
  FnOk P w K mg base CX (k + 1) f (PySem.W.fnOf name qual params body scope dV kV doc pm an cdv ct) ps sp:=by
 refine ⟨len,fun A outer s H args us vs Q E hr e0 hb r hsp => ?_⟩
 have hl:=len _ _ _ _ hsp
 have KX : K.In s.heap:=e0.mod.kin.keeps fun b o e => (e0.bs b o e).1
 have lim : s.heap.NoLimit:=e0.mod.nolimit.keeps fun b o e => (e0.bs b o e).1
 have hkind : ∀ y ∈ ps.zip us,scope.names.lookup y.1 = some .local \/ (scope.names.lookup y.1 = some .cell /\ ((cellsFrom (s.heap.objs.size + 1) scope.names []).lookup y.1).isSome = true):=fun ⟨n,v⟩ hy => by
  rcases S.par n (List.of_mem_zip hy).1 with q | q
  ·
   exact .inl q
  ·
   exact .inr ⟨q,PySem.W.cellsFrom_some _ _ _ (.inl q)⟩
 refine codeAny_call_function hr.depth (KX _ _ lk) rfl S.co S.gen rfl (PySem.W.codeRec_of KX hcd) (hb _ _ _ _ ?_)
 refine wpAny_newFunctionEnv_cells S.kind hkind fun env he s1 x => ?_
 subst he
 refine ⟨lim.keeps x.toInCall.keep,codeAny_func ?_⟩
 obtain ⟨t,ht,hq⟩:=hbody A outer s H vs Q E (hr.deeper _) hsp
 have I : Inv (cxOf CX P w K mg base N qual scope f cdv A outer s H E) [] (start N vs) H s1:=inv_start S hr.hd e0 hl r x
 refine wpAny_mono (ht [] s1 (start N vs) H _ I hq) (fun fl s' hs => ?_) fun e s' hs => hs
 have fin : ∀ {σ' : St} {H' : Hp} {v : V} {u : Value},Inv (cxOf CX P w K mg base N qual scope f cdv A outer s H E) [] σ' H' s' -> RelV v u -> Q v H' -> CE outer P w H s Q u s' :=
  fun {σ' H' v u} J rv q => ⟨v,H',J.os,J.bare,J.base,J.hok,rv,q⟩
 cases fl with
 | ret u =>
  obtain ⟨v,σ',H',J,rv,q⟩:=hs
  exact fin J rv q
 | next =>
  obtain ⟨σ',H',J,q⟩:=hs
  exact fin (v:=V.non) (u:=Value.none) J rfl q
 | brk =>
  obtain ⟨_,_,_,q⟩:=hs
  exact False.elim q
 | cont =>
  obtain ⟨_,_,_,q⟩:=hs
  exact False.elim q
end L2
namespace L2
open PySem PySem.Spec PyProof.Rows
section
variable {X : Cx} {x : Str} {p pos : Pos} {e : Expr} {es : List Expr} {t : TA} {id T : String} {r : List V -> Hp -> VK -> Prop}
def tCB (r : List V -> Hp -> VK -> Prop) (t : TA) : TE:=fun σ H Q => t σ H fun vs H1 => r vs H1 Q
theorem pe_callB (hc : CallR X (.builtin id) r) (hg : Gl X x) (hm : X.mg x = none) (hv : bootBuiltins x = some (.builtin id)) (ha : PA X (e :: es) t) (hn : x ≠ "__name__":=by decide) (hdb : (x == ("__debug__" : Str)) = false:=by decide)
  (he : starEach (e :: es) X.env = (false,eval e X.env) :: starEach es X.env:=by rfl) (hpl : (backTo pos (starEach es X.env)).any (·.1) = false:=by rfl) : PE X (.Call (.Name x p) (e :: es) [] pos) (tCB r t):=by
 intro pins s σ H Q I h
 refine wpAny_Call_Name_kw (ld_blt I hg hm hv ?_ hn hdb)
 exact PyProof.Rows.callWith_builtin1 (thn (ha pos pins s σ H _ I h) fun us s1 ⟨vs,H1,I1,r1,q1⟩ => hc pins s1 σ H1 vs us Q I1 r1 q1) he hpl
theorem pe_callTy (hc : CallR X (.type T) r) (hg : Gl X x) (hm : X.mg x = none) (hv : bootBuiltins x = some (.type T)) (ha : PA X (e :: es) t) (hn : x ≠ "__name__":=by decide) (hdb : (x == ("__debug__" : Str)) = false:=by decide)
  (he : starEach (e :: es) X.env = (false,eval e X.env) :: starEach es X.env:=by rfl) (hpl : (backTo pos (starEach es X.env)).any (·.1) = false:=by rfl) : PE X (.Call (.Name x p) (e :: es) [] pos) (tCB r t):=by
 intro pins s σ H Q I h
 refine wpAny_Call_Name_kw (ld_blt I hg hm hv ?_ hn hdb)
 exact PyProof.Rows.callWith_type1 (thn (ha pos pins s σ H _ I h) fun us s1 ⟨vs,H1,I1,r1,q1⟩ => hc pins s1 σ H1 vs us Q I1 r1 q1) he hpl
end
end L2
namespace HT
open PySem PyProof.Rows
section
open PySem.SeqAt
open PySem.AutoSeq1 (wpAny_loadPart')
open PySem.MeetsSeq PySem.MeetsSeq2 PySem.MeetsSeq3
end
section
variable {prog : Program} {w : World} {A : Around} {E : Value -> Shared -> Prop} {s : Shared}
theorem cat_tup {t b : Addr} {vs ws : List Value} {Q : Value -> Shared -> Prop} (ht : IsTup s.heap t vs.toArray) (hb : IsTup s.heap b ws.toArray) (hv : vs ≠ [])
  (h1 : ws = [] -> Q (.ref t) s) (h2 : ws ≠ [] -> Q (.ref s.heap.objs.size) { s with heap:=s.heap.push { cls:=.type "tuple",data:=.seq (vs ++ ws).toArray } })
  (hsz : vs.length + ws.length <= sizeLine) : wpAny (model prog w) A (binaryOp .Add (.ref t) (.ref b)) Q E s:=by
 obtain ⟨⟨cls,dd,data,sl⟩,ho,hc,n,hd⟩:=id ht
 obtain ⟨⟨cls2,dd2,data2,sl2⟩,ho2,hc2,n2,hd2⟩:=id hb
 simp only at hc hd hc2 hd2
 subst hc hd hc2 hd2
 have e : vs.toArray ++ ws.toArray = (vs ++ ws).toArray:=by simp
 by_cases hw : ws = []
 ·
  exact concat_meets ⟨_,ho,rfl⟩ ⟨_,ho2,rfl⟩ noFill_tuple_add seq_tuple_add PySem.F.slot_tuple_add PySem.F.entry_tuple_add (PySem.F.args_tuple_add_2 _ _)
   (tuple_addW1 t b vs.toArray ws.toArray n n2 dd dd2 sl sl2 (by simpa using hv) (by simp [hw])) ⟨ho,ho2,h1 hw⟩
 ·
  refine concat_meets ⟨_,ho,rfl⟩ ⟨_,ho2,rfl⟩ noFill_tuple_add seq_tuple_add PySem.F.slot_tuple_add PySem.F.entry_tuple_add (PySem.F.args_tuple_add_2 _ _)
   (tuple_addW2 t b vs.toArray ws.toArray n n2 dd dd2 sl sl2 (by simpa using hv) (by simpa using hw) (by rw [List.size_toArray,List.size_toArray]; exact hsz)) ⟨ho,ho2,?_⟩
  rw [e]
  exact h2 hw
noncomputable def sIx (n d : Nat) : Option Int -> Nat
 | none => d
 | some v => if v < 0 then (v + (n : Int)).toNat else min v.toNat n
theorem sIx_none (n d : Nat) : sIx n d none = d:=rfl
theorem sIx_nat (n d k : Nat) : sIx n d (some (k : Int)) = min k n:=by
 show (if (k : Int) < 0 then ((k : Int) + (n : Int)).toNat else min (k : Int).toNat n) = min k n
 rw [if_neg (by omega),Int.toNat_natCast]
theorem sIx_le (n d : Nat) (hd : d <= n) (o : Option Int) : sIx n d o <= n:=by
 cases o with
 | none => exact hd
 | some v =>
  show (if v < 0 then (v + (n : Int)).toNat else min v.toNat n) <= n
  by_cases hv : v < 0
  ·
   rw [if_pos hv]; omega
  ·
   rw [if_neg hv]; exact Nat.min_le_right _ _
theorem clip_eq (v : Int) (n d : Nat) : (if v < 0 then max (v + (n : Int)) 0 else min v (n : Int)) = ((sIx n d (some v) : Nat) : Int):=by
 show (if v < 0 then max (v + (n : Int)) 0 else min v (n : Int)) = (((if v < 0 then (v + (n : Int)).toNat else min v.toNat n) : Nat) : Int)
 by_cases hv : v < 0
 ·
  simp only [if_pos hv]; omega
 ·
  simp only [if_neg hv]; omega
theorem adjust_gen (lo hi : Option Int) (n : Nat) : Builtin.Slice.sliceAdjust lo hi 1 (n : Int) = (((sIx n 0 lo : Nat) : Int),((sIx n n hi : Nat) : Int)):=by
 have h1 : ¬ ((1 : Int) < 0):=by omega
 unfold Builtin.Slice.sliceAdjust
 simp only [h1,if_false]
 refine Prod.ext ?_ ?_
 ·
  cases lo with
  | none => rfl
  | some v => exact clip_eq v n 0
 ·
  cases hi with
  | none => rfl
  | some v => exact clip_eq v n n
theorem places_gen (i j : Nat) : Builtin.Slice.slicePlaces (i : Int) (j : Int) 1 = j - i:=by
 unfold Builtin.Slice.slicePlaces
 have h1 : (1 : Int) > 0:=by omega
 simp only [h1,if_true,Int.ediv_one]
 split <;> omega
theorem slicePart_ {v : Value} {o : Option Int} {Q : Option Int -> Shared -> Prop} (p : IsPart v o) (h : Q o s) : wpAny (model prog w) A (Builtin.Slice.slicePartIndex v) Q E s:=by
 cases p with
 | none => exact slicePart_none h
 | int i t => exact slicePart_int h
theorem sliceApplied_gen {sl : Addr} {vl vu : Value} {lo hi : Option Int} {n : Nat} {Q : Int × Int × Nat -> Shared -> Prop} (hs : s.heap.IsSliceOf sl vl vu .none) (pl : IsPart vl lo) (pu : IsPart vu hi)
  (h : Q (((sIx n 0 lo : Nat) : Int),1,sIx n n hi - sIx n 0 lo) s) : wpAny (model prog w) A (Builtin.Slice.sliceApplied (.ref sl) (pure (n : Int))) Q E s:=by
 obtain ⟨os,hos,hcs,hds⟩:=id hs
 unfold Builtin.Slice.sliceApplied Builtin.Slice.sliceFields
 refine wpAny_bind (wpAny_bind (wpAny_field hos hds (x:=vl) rfl (wpAny_bind (wpAny_field hos hds (x:=vu) rfl (wpAny_bind (wpAny_field hos hds (x:=.none) rfl (wpAny_pure ?_)))))))
 refine wpAny_bind (slicePart_none ?_)
 show wpAny _ _ (if ((1 : Int) == 0) = true then _ else _) _ _ s
 rw [if_neg (by decide)]
 refine wpAny_bind (slicePart_ pl (wpAny_bind (slicePart_ pu (wpAny_bind (wpAny_pure ?_)))))
 show wpAny _ _ (match Builtin.Slice.sliceAdjust lo hi 1 (n : Int) with | (lo,hi) => pure (lo,(1 : Int),Builtin.Slice.slicePlaces lo hi 1)) _ _ s
 rw [adjust_gen lo hi n]
 show wpAny _ _ (pure (((sIx n 0 lo : Nat) : Int),(1 : Int),Builtin.Slice.slicePlaces ((sIx n 0 lo : Nat) : Int) ((sIx n n hi : Nat) : Int) 1)) _ _ s
 rw [places_gen]
 exact wpAny_pure h
theorem pick_gen (xs : Array Value) (i k : Nat) : ((List.range k).filterMap fun (m : Nat) => xs[((i : Int) + (m : Int) * 1).toNat]?).toArray = ((xs.toList.drop i).take k).toArray:=by
 have e : (fun (m : Nat) => xs[((i : Int) + (m : Int) * 1).toNat]?) = fun m => xs[i + m]?:=by
  funext m
  have : ((i : Int) + (m : Int) * 1).toNat = i + m:=by omega
  rw [this]
 rw [e]
 have:=pick_run xs i k
 rw [List.filterMap_map] at this
 have e2 : ((fun x => xs[x]?) ∘ fun x => i + x) = fun m => xs[i + m]?:=rfl
 rw [e2] at this
 rw [this]
theorem getItem_tuple_cut {t sl : Addr} {items : Array Value} {vl vu : Value} {lo hi : Option Int} {Q : Value -> Shared -> Prop} (ht : IsTup s.heap t items) (hs : s.heap.IsSliceOf sl vl vu .none) (pl : IsPart vl lo) (pu : IsPart vu hi)
  (hw : ¬ (sIx items.size 0 lo = 0 /\ sIx items.size items.size hi = items.size))
  (h : Q (.ref s.heap.objs.size) { s with heap:=s.heap.push { cls:=.type "tuple",data:=.seq ((items.toList.drop (sIx items.size 0 lo)).take (sIx items.size items.size hi - sIx items.size 0 lo)).toArray } })
  (hsz : items.size <= sizeLine) : wpAny (model prog w) A (getItem (.ref t) (.ref sl)) Q E s:=by
 have htake : sizeOk (.seq ((items.toList.drop (sIx items.size 0 lo)).take (sIx items.size items.size hi - sIx items.size 0 lo)).toArray):=by
  show ((items.toList.drop (sIx items.size 0 lo)).take (sIx items.size items.size hi - sIx items.size 0 lo)).toArray.size <= sizeLine
  rw [List.size_toArray,List.length_take,List.length_drop,Array.length_toList]
  omega
 have hj : sIx items.size items.size hi <= items.size:=sIx_le _ _ (Nat.le_refl _) hi
 obtain ⟨os,hos,hcs,hds⟩:=id hs
 have hTs : s.TypeIs (.ref sl) "slice":=⟨os,hos,hcs⟩
 unfold getItem
 try with_reducible refine wpAny_holding ?_
 first | refine wpAny_bind (wpAny_pure ?_) | skip
 refine wpAny_bind (wpAny_sequenceKey ht.typeIs (by decide) ?_)
 refine wpAny_bind (wpAny_callSpecial?_slot (name:=Str.ofString "__getitem__") ht.typeIs PyProof.Rows.slot_tuple_getitem
  (wpAny_call_entry PyProof.Rows.slot_tuple_getitem ht.typeIs entry_tuple_getitem ?_ (args_tuple_getitem _ _)))
 show wpAny _ _ (Builtin.Tuple.tupleItemsOf (.ref t) >>= _) _ _ s
 refine wpAny_bind (tupleItemsOf_ ht ?_)
 refine wpAny_bind (wpAny_typeOf hTs ?_)
 rw [if_pos (by decide)]
 refine wpAny_bind (sliceApplied_gen hs pl pu ?_)
 have hno : ¬ ((((sIx items.size 0 lo : Nat) : Int) == 0 && (1 : Int) == 1 && (sIx items.size items.size hi - sIx items.size 0 lo) == items.size) = true):=by
  intro q
  rw [Bool.and_eq_true,Bool.and_eq_true] at q
  have q1 : ((sIx items.size 0 lo : Nat) : Int) = 0:=eq_of_beq q.1.1
  have q2 : sIx items.size items.size hi - sIx items.size 0 lo = items.size:=eq_of_beq q.2
  exact hw ⟨by omega,by omega⟩
 show wpAny _ _ (if (((sIx items.size 0 lo : Nat) : Int) == 0 && (1 : Int) == 1 && (sIx items.size items.size hi - sIx items.size 0 lo) == items.size) = true then _ else _) _ _ s
 rw [if_neg hno,pick_gen]
 first
  | exact wpAny_bind (m:=Builtin.Tuple.tupleExact _) (wpAny_newObj_type (wpAny_pure ⟨_,rfl,wpAny_pure h⟩) htake)
  | exact wpAny_bind (m:=Builtin.Tuple.tupleExact _) (wpAny_newObj_type (wpAny_bind (wpAny_pure (wpAny_pure ⟨_,rfl,wpAny_pure h⟩))) htake)
  | exact wpAny_bind (wpAny_bind (m:=Builtin.Tuple.tupleExact _) (wpAny_newObj_type (wpAny_pure (wpAny_pure ⟨_,rfl,wpAny_pure h⟩)) htake))
  | exact wpAny_bind (wpAny_bind (m:=Builtin.Tuple.tupleExact _) (wpAny_newObj_type (wpAny_pure ⟨_,rfl,wpAny_pure h⟩) htake))
end
end HT
namespace L2
open PySem PySem.Spec PyProof.Rows
abbrev TO:=St -> Hp -> (Option Int -> Hp -> Prop) -> Prop
def PO (X : Cx) (e : Option Expr) (t : TO) : Prop :=
 ∀ (pins : List (Addr × Obj)) (s : Shared) (σ : St) (H : Hp) (Q : Option Int -> Hp -> Prop),Inv X pins σ H s -> t σ H Q ->
  wpAny (model X.prog X.w) X.A (evalPart e X.env) (fun u s' => ∃ o H',Inv X pins σ H' s' /\ IsPart u o /\ Q o H') X.xe s
def tNoPart : TO:=fun _ H Q => Q none H
def tPart (t : TE) : TO:=fun σ H Q => t σ H fun x H1 => ∃ i,x = .int i /\ Q (some i) H1
section
variable {X : Cx} {e : Expr} {te : TE} {lo hi : Option Expr} {tl th : TO} {pos p2 : Pos}
theorem po_none : PO X none tNoPart:=by
 intro pins s σ H Q I h
 rw [evalPart_none]
 exact wpAny_pure ⟨none,H,I,.none,h⟩
theorem po_some (h : PE X e te) : PO X (some e) (tPart te):=by
 intro pins s σ H Q I hw
 rw [evalPart_some]
 refine thn (h pins s σ H _ I hw) fun u s1 ⟨x,H1,I1,r1,q1⟩ => ?_
 obtain ⟨i,rfl,q⟩:=q1
 obtain ⟨t,rfl⟩:=r1
 exact ⟨some i,H1,I1,.int i t,q⟩
def SlR (X : Cx) (r : V -> Option Int -> Option Int -> Hp -> VK -> Prop) : Prop :=
 ∀ (pins : List (Addr × Obj)) (s : Shared) (σ : St) (H : Hp) (x : V) (v vl vu : Value) (lo hi : Option Int) (sl : Addr) (Q : VK),Inv X pins σ H s -> RelV x v -> s.heap.IsSliceOf sl vl vu .none -> IsPart vl lo -> IsPart vu hi -> r x lo hi H Q ->
  ∃ T id,typeLookup (.type T) "__getitem__" = pure (some (.builtin id)) /\ s.TypeIs v T /\ wpAny (model X.prog X.w) X.A (getItem v (.ref sl)) (EP X pins σ Q) X.xe s
theorem SlR.or {r r' : V -> Option Int -> Option Int -> Hp -> VK -> Prop} (h : SlR X r) (h' : SlR X r') : SlR X (fun x lo hi H Q => r x lo hi H Q \/ r' x lo hi H Q):=by
 intro pins s σ H x v vl vu lo hi sl Q I rx hs pl pu q
 rcases q with q | q
 ·
  exact h pins s σ H x v vl vu lo hi sl Q I rx hs pl pu q
 ·
  exact h' pins s σ H x v vl vu lo hi sl Q I rx hs pl pu q
def tSl (r : V -> Option Int -> Option Int -> Hp -> VK -> Prop) (te : TE) (tl th : TO) : TE:=fun σ H Q => te σ H fun x H1 => tl σ H1 fun l H2 => th σ H2 fun u H3 => r x l u H3 Q
theorem pe_slice {r : V -> Option Int -> Option Int -> Hp -> VK -> Prop} (hr : SlR X r) (he : PE X e te) (hl : PO X lo tl) (hu : PO X hi th) : PE X (.Subscript e (.Slice lo hi none p2) pos) (tSl r te tl th):=by
 intro pins s σ H Q I h
 refine Subscript_ (thn (he pins s σ H _ I h) fun v s1 ⟨x,H1,I1,r1,q1⟩ => ?_)
 refine wpAny_Slice (thn (hl pins s1 σ H1 _ I1 q1) fun vl s2 ⟨l,H2,I2,pl,q2⟩ => thn (hu pins s2 σ H2 _ I2 q2) fun vu s3 ⟨u,H3,I3,pu,q3⟩ => ?_)
 rw [evalPart_none]
 refine wpAny_pure ?_
 have I4 : Inv X pins σ H3 { s3 with heap:=s3.heap.push { cls:=.type "slice",data:=.fields #[vl,vu,.none] } }:=I3.kept (t':=s3.toks) fun b ob q => Heap.get?_push_of_some _ q
 obtain ⟨T,id,hT,ht,hg⟩:=hr pins { s3 with heap:=s3.heap.push { cls:=.type "slice",data:=.fields #[vl,vu,.none] } } σ H3 x v vl vu l u s3.heap.objs.size Q I4 r1 (Heap.IsSliceOf.new ..) pl pu q3
 show wpAny (model X.prog X.w) X.A (subscriptTail e (.Slice lo hi none p2) v (.ref s3.heap.objs.size)) (EP X pins σ Q) X.xe { s3 with heap:=s3.heap.push { cls:=.type "slice",data:=.fields #[vl,vu,.none] } }
 exact tail_any (ops:=[.ref s3.heap.objs.size,v]) ht hT hg (by with_unfolding_all rfl)
noncomputable def cutV (xs : List V) (lo hi : Option Int) : List V:=(xs.drop (HT.sIx xs.length 0 lo)).take (HT.sIx xs.length xs.length hi - HT.sIx xs.length 0 lo)
theorem cutV_length (xs : List V) (lo hi : Option Int) : (cutV xs lo hi).length <= xs.length:=by
 unfold cutV
 rw [List.length_take,List.length_drop]
 omega
def rSlT (K : PySem.W.Frag) : V -> Option Int -> Option Int -> Hp -> VK -> Prop:=fun x lo hi H Q => ∃ a xs,x = .ref a /\ SqT K H a xs /\
 ¬ (HT.sIx xs.length 0 lo = 0 /\ HT.sIx xs.length xs.length hi = xs.length) /\ ∀ p,H p = none -> Q (.ref p) (upd H p (.tup (cutV xs lo hi)))
theorem sl_tup : SlR X (rSlT X.K):=by
 intro pins s σ H x v vl vu lo hi sl Q I rx hs pl pu h
 obtain ⟨a,xs,rfl,hx,hw,q⟩:=h
 cases rx
 obtain ⟨its,r,ht,hz⟩:=I.tuple hx
 have hlen : its.toArray.size = xs.length:=by rw [List.size_toArray]; exact r.length.symm
 refine ⟨"tuple",_,PyProof.Rows.slot_tuple_getitem.lookup,ht.typeIs,?_⟩
 refine HT.getItem_tuple_cut ht hs pl pu (by rw [hlen]; exact hw) ?_ (by rw [hlen]; exact hz)
 rw [hlen]
 refine ⟨.ref s.heap.objs.size,_,I.laid (t':=s.toks) (o:=.tup (cutV xs lo hi)) (fun b ob q => Heap.get?_push_of_some _ q) (Nat.le_refl _) ?_,rfl,q _ (I.hok.fresh (Nat.le_refl _))⟩
 exact ⟨Nat.le_trans (cutV_length xs lo hi) hz,_,(r.drop (HT.sIx xs.length 0 lo)).take (HT.sIx xs.length xs.length hi - HT.sIx xs.length 0 lo),Tup0.new _ _⟩
def rCatT (K : PySem.W.Frag) : R2:=fun x y H Q => ∃ a b xs ys,x = .ref a /\ y = .ref b /\ SqT K H a xs /\ SqT K H b ys /\ xs ≠ [] /\ xs.length + ys.length <= sizeLine /\
 (ys = [] -> Q (.ref a) H) /\ (ys ≠ [] -> ∀ p,H p = none -> Q (.ref p) (upd H p (.tup (xs ++ ys))))
theorem Vals.nil_iff {xs : List V} {us : List Value} (r : Vals xs us) : us = [] ↔ xs = []:=by
 cases r with
 | nil => simp
 | cons _ _ => simp
theorem op_catT : OpR X (binaryOp .Add) (rCatT X.K):=by
 intro pins s σ H x y v u Q I rx ry h
 obtain ⟨a,b,xs,ys,rfl,rfl,ha,hb,hx,hz,q1,q2⟩:=h
 cases rx
 cases ry
 obtain ⟨its,r1,p1,_⟩:=I.tuple ha
 obtain ⟨its2,r2,p2,_⟩:=I.tuple hb
 refine HT.cat_tup p1 p2 (fun z => hx (r1.nil_iff.mp z)) (fun z => ⟨.ref a,H,I,rfl,q1 (r2.nil_iff.mp z)⟩) (fun z => ?_) (by rw [<- r1.length,<- r2.length]; exact hz)
 refine ⟨.ref s.heap.objs.size,_,I.laid (t':=s.toks) (o:=.tup (xs ++ ys)) (fun b ob q => Heap.get?_push_of_some _ q) (Nat.le_refl _) ?_,rfl,q2 (fun w => z (r2.nil_iff.mpr w)) _ (I.hok.fresh (Nat.le_refl _))⟩
 exact ⟨by rw [List.length_append]; exact hz,_,r1.append r2,Tup0.new _ _⟩
end
end L2
namespace L2
open PySem PySem.Spec PyProof.Rows
noncomputable def ixN (n : Nat) (i : Int) : Option Nat:=if 0 <= i then (if i < n then some i.toNat else none) else if -(n : Int) <= i then some (i + n).toNat else none
noncomputable def atI {α : Type} (xs : List α) (i : Int) : Option α:=(ixN xs.length i).bind fun j => xs[j]?
theorem ixN_seq {n : Nat} {i : Int} {j : Nat} (h : ixN n i = some j) : seqIndex? i n = some j /\ j < n /\ -(n : Int) <= i /\ i < n:=by
 unfold ixN at h
 by_cases h0 : 0 <= i
 ·
  rw [if_pos h0] at h
  by_cases h1 : i < n
  ·
   rw [if_pos h1] at h
   have e : i.toNat = j:=Option.some.inj h
   exact ⟨by rw [seqIndex_of h0 h1,e],by omega,by omega,h1⟩
  ·
   rw [if_neg h1] at h; cases h
 ·
  rw [if_neg h0] at h
  by_cases h1 : -(n : Int) <= i
  ·
   rw [if_pos h1] at h
   have e : (i + n).toNat = j:=Option.some.inj h
   exact ⟨by rw [seqIndex_neg (by omega) h1,e],by omega,h1,by omega⟩
  ·
   rw [if_neg h1] at h; cases h
theorem atI_get {α : Type} {xs : List α} {i : Int} {v : α} (h : atI xs i = some v) : ∃ j,seqIndex? i xs.length = some j /\ xs[j]? = some v /\ j < xs.length /\ -(xs.length : Int) <= i /\ i < xs.length:=by
 unfold atI at h
 cases e : ixN xs.length i with
 | none => rw [e] at h; cases h
 | some j =>
  rw [e] at h
  obtain ⟨h1,h2,h3,h4⟩:=ixN_seq e
  exact ⟨j,h1,h,h2,h3,h4⟩
theorem atI_nat {α : Type} {xs : List α} {j : Nat} {v : α} (h : xs[j]? = some v) : atI xs (j : Int) = some v:=by
 have hj : j < xs.length:=(List.getElem?_eq_some_iff.mp h).1
 have e : ixN xs.length (j : Int) = some j:=by
  unfold ixN
  rw [if_pos (by omega),if_pos (by omega)]; simp
 unfold atI; rw [e]; exact h
def PlainIx (b : Expr) : Prop:=∀ o i,subscripted b false o i = operate [o,i] (getItem o i)
def IxR (X : Cx) (r : R2) : Prop :=
 ∀ (value slice : Expr) (pins : List (Addr × Obj)) (s : Shared) (σ : St) (H : Hp) (x y : V) (v u : Value) (Q : VK),Inv X pins σ H s -> RelV x v -> RelV y u -> r x y H Q ->
  subscripted slice false v u = operate [v,u] (getItem v u) -> wpAny (model X.prog X.w) X.A (subscriptTail value slice v u) (EP X pins σ Q) X.xe s
def MtR (X : Cx) (id : String) (r : V -> List V -> Hp -> VK -> Prop) : Prop :=
 ∀ (pins : List (Addr × Obj)) (s : Shared) (σ : St) (H : Hp) (x : V) (xs : List V) (v : Value) (us : List Value) (Q : VK),Inv X pins σ H s -> RelV x v -> Vals xs us -> r x xs H Q ->
  wpAny (model X.prog X.w) X.A (call (.builtin id) (v :: us)) (EP X pins σ Q) X.xe s
section
variable {X : Cx} {a b : Expr} {ta tb : TE} {pos : Pos}
theorem IxR.or {r r' : R2} (h : IxR X r) (h' : IxR X r') : IxR X (fun x y H Q => r x y H Q \/ r' x y H Q):=by
 intro value slice pins s σ H x y v u Q I rx ry q hs
 rcases q with q | q
 ·
  exact h value slice pins s σ H x y v u Q I rx ry q hs
 ·
  exact h' value slice pins s σ H x y v u Q I rx ry q hs
theorem MtR.or {id : String} {r r' : V -> List V -> Hp -> VK -> Prop} (h : MtR X id r) (h' : MtR X id r') : MtR X id (fun x xs H Q => r x xs H Q \/ r' x xs H Q):=by
 intro pins s σ H x xs v us Q I rx rs q
 rcases q with q | q
 ·
  exact h pins s σ H x xs v us Q I rx rs q
 ·
  exact h' pins s σ H x xs v us Q I rx rs q
theorem pe_ix {r : R2} (hr : IxR X r) (ha : PE X a ta) (hb : PE X b tb) (hs : PlainIx b) : PE X (.Subscript a b pos) (tOp r ta tb):=by
 intro pins s σ H Q I h
 exact Subscript_ (binT ha hb I h fun v u s2 x y H2 I2 rx ry q => hr a b pins s2 σ H2 x y v u Q I2 rx ry q (hs _ _))
def rIxL (K : PySem.W.Frag) : R2:=fun x y H Q => ∃ p xs i v,x = .ref p /\ y = .int i /\ SqL K H p xs /\ atI xs i = some v /\ Q v H
def rIxT (K : PySem.W.Frag) : R2:=fun x y H Q => ∃ p xs i v,x = .ref p /\ y = .int i /\ SqT K H p xs /\ atI xs i = some v /\ Q v H
def rIxS : R2:=fun x y H Q => ∃ z i c,x = .str z /\ y = .int i /\ z.length <= sizeLine /\ atI z.cps.toList i = some c /\ Q (.str ⟨#[c]⟩) H
theorem ix_list : IxR X (rIxL X.K):=by
 intro value slice pins s σ H x y v u Q I rx ry h hs
 obtain ⟨p,xs,i,z,rfl,rfl,hq,he,q⟩:=h
 cases rx
 obtain ⟨t,rfl⟩:=ry
 obtain ⟨its,r,pl,hz⟩:=I.list hq
 obtain ⟨j,h1,h2,h3,h4,h5⟩:=atI_get he
 obtain ⟨w,ew,rw'⟩:=r.get h2
 have hl:=r.length
 have hn:=line63
 have fin : EP X pins σ Q w s:=⟨z,H,I,rw',q⟩
 by_cases h0 : 0 <= i
 ·
  have hj : i.toNat = j:=by
   rw [seqIndex_of h0 h5] at h1
   exact Option.some.inj h1
  exact item_listR pl.isList h0 (by omega) (by rw [hj]; simpa using ew) fin hs
 ·
  have hj : (i + (its.toArray.size : Int)).toNat = j:=by
   rw [seqIndex_neg (by omega) h4] at h1
   rw [List.size_toArray,<- hl]
   exact Option.some.inj h1
  exact subscriptTail_builtinR (x:=w) pl.isList.typeIs slot_list_getitem.lookup
   (wpAny_getItem_list_neg (Q:=fun r s' => r = w /\ EP X pins σ Q r s') pl.isList (by omega) (by rw [List.size_toArray] <;> omega) (by omega) (by rw [hj]; simpa using ew) ⟨rfl,fin⟩) hs
theorem ix_tup : IxR X (rIxT X.K):=by
 intro value slice pins s σ H x y v u Q I rx ry h hs
 obtain ⟨p,xs,i,z,rfl,rfl,hq,he,q⟩:=h
 cases rx
 obtain ⟨t,rfl⟩:=ry
 obtain ⟨its,r,pl,hz⟩:=I.tuple hq
 obtain ⟨j,h1,h2,h3,h4,h5⟩:=atI_get he
 obtain ⟨w,ew,rw'⟩:=r.get h2
 have hl:=r.length
 have hn:=line63
 have fin : EP X pins σ Q w s:=⟨z,H,I,rw',q⟩
 exact subscriptTail_builtinR (x:=w) pl.typeIs slot_tuple_getitem.lookup
  (getItem_tuple (j:=j) (Q:=fun r s' => r = w /\ EP X pins σ Q r s') pl (by omega) (by omega) (by rw [List.size_toArray,<- hl]; exact h1) (by simpa using ew) ⟨rfl,fin⟩) hs
theorem ix_str : IxR X rIxS:=by
 intro value slice pins s σ H x y v u Q I rx ry h hs
 obtain ⟨z,i,c,rfl,rfl,hz,he,q⟩:=h
 obtain ⟨t,rfl⟩:=rx
 obtain ⟨t',rfl⟩:=ry
 obtain ⟨j,h1,h2,h3,h4,h5⟩:=atI_get he
 have hl : z.cps.toList.length = z.length:=by simp [Str.length]
 rw [hl] at h1 h4 h5
 have hn:=line63
 exact tail_any (typeIs_str s z t) slot_str_getitem.lookup (getItem_str (c:=c) (by
  have e1 : decide (i < -(2 ^ 63 : Int)) = false:=decide_eq_false (by omega)
  have e2 : decide (i ≥ 2 ^ 63) = false:=decide_eq_false (by omega)
  rw [e1,e2,Bool.or_false]) (by rw [h1]; simpa using h2) ⟨.str ⟨#[c]⟩,H,I.tok _,⟨_,rfl⟩,q⟩) hs
def rIx (K : PySem.W.Frag) : R2:=fun x y H Q => rIxL K x y H Q \/ rIxT K x y H Q \/ rIxS x y H Q
theorem ix_seq : IxR X (rIx X.K):=ix_list.or (ix_tup.or ix_str)
theorem mapSeq_set (its : List Value) (n j : Nat) (u : Value) : Obj.mapSeq (·.setIfInBounds j u) { cls:=.type "list",data:=.seq its.toArray n } = { cls:=.type "list",data:=.seq (its.set j u).toArray n }:=by
 simp [Obj.mapSeq]
theorem Inv.lst {pins : List (Addr × Obj)} {σ : St} {H : Hp} {s : Shared} {p : Addr} {xs : List V} (I : Inv X pins σ H s) (h : H p = some (.lst xs)) :
  ∃ (its : List Value) (n : Nat),Vals xs its /\ s.heap.get? p = some { cls:=.type "list",data:=.seq its.toArray n } /\ xs.length <= sizeLine:=by
 obtain ⟨z,its,n,r,e⟩:=I.hok p _ h
 exact ⟨its,n,r,e,z⟩
theorem Inv.lstUpd {pins : List (Addr × Obj)} {σ : St} {H : Hp} {s : Shared} {p : Addr} {xs ys : List V} {its its' : List Value} {n n' : Nat} {f : Obj -> Obj} (I : Inv X pins σ H s) (h : H p = some (.lst xs))
  (ho : s.heap.get? p = some { cls:=.type "list",data:=.seq its.toArray n }) (hf : f { cls:=.type "list",data:=.seq its.toArray n } = { cls:=.type "list",data:=.seq its'.toArray n' }) (r : Vals ys its') (hz : ys.length <= sizeLine) (t : Nat) :
  Inv X pins σ (upd H p (.lst ys)) { s with heap:=s.heap.update p f,toks:=t }:=by
 have e : (s.heap.update p f).get? p = some { cls:=.type "list",data:=.seq its'.toArray n' }:=by
  rw [Heap.get?_update_self f ho (by rw [hf] <;> rfl),hf]
 refine I.write (x:=p) (e:=p) (by rw [h]; trivial) (.inl rfl) (fun b u hb q => (Heap.get?_update_other _ _ (Ne.symm hb)).trans q) ⟨_,e⟩ ?_
 exact ⟨hz,its',n',r,e⟩
def rSetL : V -> V -> V -> Hp -> (Hp -> Prop) -> Prop:=fun o i v H Q => ∃ p xs k j,o = .ref p /\ i = .int k /\ H p = some (.lst xs) /\ ixN xs.length k = some j /\ Q (upd H p (.lst (xs.set j v)))
theorem set_list : PSet X rSetL:=by
 intro pins s σ H o i v ov iv u Q I ro ri rv h
 obtain ⟨p,xs,k,j,rfl,rfl,hp,hj,q⟩:=h
 cases ro
 obtain ⟨t,rfl⟩:=ri
 obtain ⟨its,n,r,ho,hz⟩:=I.lst hp
 obtain ⟨h1,h2,h3,h4⟩:=ixN_seq hj
 have hl:=r.length
 have hn:=line63
 have I' : Inv X pins σ (upd H p (.lst (xs.set j v))) { s with heap:=s.heap.update p (Obj.mapSeq (·.setIfInBounds j u)) } :=
  I.lstUpd hp ho (mapSeq_set its n j u) (r.set rv j) (by rw [List.length_set]; exact hz) s.toks
 by_cases h0 : 0 <= k
 ·
  have hk : k.toNat = j:=by
   rw [seqIndex_of h0 h4] at h1
   exact Option.some.inj h1
  exact PySem.W.ki_setAt ho h0 (by omega) (by rw [List.size_toArray,<- hl]; exact h4) (by rw [hk]; exact ⟨_,I',q⟩)
 ·
  have hk : (k + (its.toArray.size : Int)).toNat = j:=by
   rw [seqIndex_neg (by omega) h3] at h1
   rw [List.size_toArray,<- hl]
   exact Option.some.inj h1
  exact PySem.W.ki_setBack ho (by omega) (by rw [List.size_toArray,<- hl]; exact h3) (by omega) (by rw [hk]; exact ⟨_,I',q⟩)
theorem slice_bounds (lo hi : Option Int) (n : Nat) : (sliceBounds lo hi none n).1 = ((HT.sIx n 0 lo : Nat) : Int) /\ (sliceBounds lo hi none n).2.1 = ((HT.sIx n n hi : Nat) : Int) /\ (sliceBounds lo hi none n).2.2 = 1:=by
 refine ⟨?_,?_,rfl⟩
 ·
  cases lo with
  | none => simp [sliceBounds,HT.sIx]
  | some i =>
   simp only [sliceBounds,HT.sIx,Option.getD_none,show (1 : Int) > 0 by decide,if_true]
   by_cases h : i < 0
   ·
    simp only [h,if_true] <;> omega
   ·
    simp only [h,if_false] <;> omega
 ·
  cases hi with
  | none => simp [sliceBounds,HT.sIx]
  | some i =>
   simp only [sliceBounds,HT.sIx,Option.getD_none,show (1 : Int) > 0 by decide,if_true]
   by_cases h : i < 0
   ·
    simp only [h,if_true] <;> omega
   ·
    simp only [h,if_false] <;> omega
theorem slicePick_cut (its : List Value) (lo hi : Option Int) : slicePick its.toArray lo hi none = ((its.drop (HT.sIx its.length 0 lo)).take (HT.sIx its.length its.length hi - HT.sIx its.length 0 lo)).toArray:=by
 obtain ⟨h1,h2,h3⟩:=slice_bounds lo hi its.toArray.size
 unfold slicePick
 rw [h1,h2,h3]
 simp only [sliceRange_one,pick_run,List.size_toArray] <;> rfl
def rSlL (K : PySem.W.Frag) : V -> Option Int -> Option Int -> Hp -> VK -> Prop:=fun x lo hi H Q => ∃ a xs,x = .ref a /\ SqL K H a xs /\ ∀ p,H p = none -> Q (.ref p) (upd H p (.lst (cutV xs lo hi)))
theorem sl_list : SlR X (rSlL X.K):=by
 intro pins s σ H x v vl vu lo hi sl Q I rx hs pl pu h
 obtain ⟨a,xs,rfl,hx,q⟩:=h
 cases rx
 obtain ⟨its,r,ht,hz⟩:=I.list hx
 have hlen:=r.length
 refine ⟨"list",_,slot_list_getitem.lookup,ht.isList.typeIs,?_⟩
 refine wpAny_getItem_list_slice ht.isList hs pl pu .none (by simp) ?_ (by rw [List.size_toArray] <;> omega)
 rw [slicePick_cut,<- hlen]
 refine ⟨.ref s.heap.objs.size,_,I.laid (t':=s.toks) (o:=.lst (cutV xs lo hi)) (fun b ob q => Heap.get?_push_of_some _ q) (Nat.le_refl _) ?_,rfl,q _ (I.hok.fresh (Nat.le_refl _))⟩
 exact ⟨Nat.le_trans (cutV_length xs lo hi) hz,_,0,(r.drop (HT.sIx xs.length 0 lo)).take (HT.sIx xs.length xs.length hi - HT.sIx xs.length 0 lo),Heap.get?_push_size _ rfl⟩
theorem call_len_seq : CallR X (.builtin "len") (fun xs H Q => ∃ p ys,xs = [.ref p] /\ (SqL X.K H p ys \/ SqT X.K H p ys) /\ Q (.int ys.length) H):=by
 intro pins s σ H xs us Q I r h
 obtain ⟨p,ys,rfl,hq,q⟩:=h
 obtain ⟨u,rfl,rx⟩:=vals1 r
 cases rx
 have hn:=line63
 rcases hq with hq | hq
 ·
  obtain ⟨its,r',pl,hz⟩:=I.list hq
  have hlen:=r'.length
  exact Calls.call_len_list pl.isList (by simp only [List.size_toArray] <;> omega) ⟨.int ys.length,H,I.tok _,⟨s.toks + 1,by rw [List.size_toArray,hlen]⟩,q⟩
 ·
  obtain ⟨its,r',pl,hz⟩:=I.tuple hq
  have hlen:=r'.length
  exact len_tuple pl (by simp only [List.size_toArray] <;> omega) ⟨.int ys.length,H,I.tok _,⟨s.toks + 1,by rw [List.size_toArray,hlen]⟩,q⟩
theorem call_len_str : CallR X (.builtin "len") (fun xs H Q => ∃ z,xs = [.str z] /\ z.length <= sizeLine /\ Q (.int z.length) H):=by
 intro pins s σ H xs us Q I r h
 obtain ⟨z,rfl,hz,q⟩:=h
 obtain ⟨u,rfl,t,rfl⟩:=vals1 r
 have hn:=line63
 exact len_str (by omega) ⟨.int z.length,H,I.tok _,⟨_,rfl⟩,q⟩
theorem CallR.or {f : Value} {r r' : List V -> Hp -> VK -> Prop} (h : CallR X f r) (h' : CallR X f r') : CallR X f (fun xs H Q => r xs H Q \/ r' xs H Q):=by
 intro pins s σ H xs us Q I rs q
 rcases q with q | q
 ·
  exact h pins s σ H xs us Q I rs q
 ·
  exact h' pins s σ H xs us Q I rs q
theorem call_list_of : CallR X (.type "list") (fun xs H Q => ∃ p ys,xs = [.ref p] /\ (SqL X.K H p ys \/ SqT X.K H p ys) /\ ∀ l,H l = none -> Q (.ref l) (upd H l (.lst ys))):=by
 intro pins s σ H xs us Q I r h
 obtain ⟨p,ys,rfl,hq,q⟩:=h
 obtain ⟨u,rfl,rx⟩:=vals1 r
 cases rx
 have fin : ∀ (its : List Value),Vals ys its -> ys.length <= sizeLine -> ∀ (h' : Heap) (c' : Nat),(∀ b o',s.heap.get? b = some o' -> h'.get? b = some o') ->
   h'.get? s.heap.objs.size = some { cls:=.type "list",dict:=none,data:=.seq its.toArray c',slots:=#[] } -> EP X pins σ Q (.ref s.heap.objs.size) { s with heap:=h' }:=fun its r' hz h' c' kp e =>
  ⟨.ref s.heap.objs.size,_,I.laid (t':=s.toks) kp (Nat.le_refl _) (show ObjOk X.prog X.w _ h' _ (.lst ys) from ⟨hz,its,c',r',e⟩),rfl,q _ (I.hok.fresh (Nat.le_refl _))⟩
 rcases hq with hq | hq
 ·
  obtain ⟨its,r',pl,hz⟩:=I.list hq
  have hlen:=r'.length
  obtain ⟨o,ho,hc,n,hd⟩:=pl.isList
  exact call_list_seq p (.inl rfl) ho hc hd (fun h' c' kp e => fin its r' hz h' c' kp e) (by simp only [List.size_toArray] <;> omega)
 ·
  obtain ⟨its,r',pl,hz⟩:=I.tuple hq
  have hlen:=r'.length
  obtain ⟨o,ho,hc,n,hd⟩:=pl
  exact call_list_seq p (.inr rfl) ho hc hd (fun h' c' kp e => fin its r' hz h' c' kp e) (by simp only [List.size_toArray] <;> omega)
theorem call_tuple_of : CallR X (.type "tuple") (fun xs H Q => ∃ p ys,xs = [.ref p] /\ ((SqL X.K H p ys /\ ∀ l,H l = none -> Q (.ref l) (upd H l (.tup ys))) \/ (SqT X.K H p ys /\ Q (.ref p) H))):=by
 intro pins s σ H xs us Q I r h
 obtain ⟨p,ys,rfl,h⟩:=h
 obtain ⟨u,rfl,rx⟩:=vals1 r
 cases rx
 rcases h with ⟨hq,q⟩ | ⟨hq,q⟩
 ·
  obtain ⟨its,r',pl,hz⟩:=I.list hq
  have hlen:=r'.length
  refine call_tuple_list pl.isList (fun h' kp => ?_) (by simp only [List.size_toArray] <;> omega)
  have I1 : Inv X pins σ H { s with heap:=h' }:=I.kept (t':=s.toks) kp
  have I2 : Inv X pins σ (upd H h'.objs.size (.tup ys)) { s with heap:=h'.push { cls:=.type "tuple",data:=.seq its.toArray } } :=
   I1.laid (t':=s.toks) (fun b o e => Heap.get?_push_of_some _ e) (Nat.le_refl _) (show ObjOk X.prog X.w _ _ _ (.tup ys) from ⟨hz,its,r',Tup0.new _ _⟩)
  exact ⟨.ref h'.objs.size,_,I2,rfl,q _ (I1.hok.fresh (Nat.le_refl _))⟩
 ·
  obtain ⟨its,r',pl,hz⟩:=I.tuple hq
  exact call_tuple_same pl ⟨.ref p,H,I,rfl,q⟩
def tyV (K : PySem.W.Frag) (T : String) (x : V) (H : Hp) : Prop:=match x with
 | .str _ => T = "str"
 | .int _ => T = "int"
 | .ref p => (T = "list" /\ ∃ xs,SqL K H p xs) \/ (T = "tuple" /\ ∃ xs,SqT K H p xs) \/
   (T = "dict" /\ ((∃ kvs,H p = some (.dK kvs)) \/ ∃ kvs,H p = some (.dT kvs))) \/ (T = "set" /\ ∃ S n,H p = some (.set S n))
 | _ => False
theorem tyV_is {pins : List (Addr × Obj)} {σ : St} {H : Hp} {s : Shared} {T : String} {x : V} {v : Value} (I : Inv X pins σ H s) (r : RelV x v) (ty : tyV X.K T x H) :
  s.TypeIs v T /\ ∀ a,v = .ref a -> ∃ ob,s.heap.get? a = some ob /\ ob.dict = none:=by
 cases x with
 | str z =>
  obtain ⟨t,rfl⟩:=r
  cases (show T = "str" from ty)
  exact ⟨typeIs_str s z t,fun _ e => nomatch e⟩
 | int i =>
  obtain ⟨t,rfl⟩:=r
  cases (show T = "int" from ty)
  exact ⟨typeIs_int s i t,fun _ e => nomatch e⟩
 | ref p =>
  cases r
  rcases ty with ⟨rfl,xs,hq⟩ | ⟨rfl,xs,hk⟩ | ⟨rfl,hk⟩ | ⟨rfl,S,n,hk⟩
  ·
   obtain ⟨its,_,pl,_⟩:=I.list hq
   refine ⟨pl.isList.typeIs,fun a e => ?_⟩
   cases e
   obtain ⟨o,n,e,c,hd,_⟩:=pl
   exact ⟨o,e,hd⟩
  ·
   rcases hk with hk | ⟨o,its,n,hk,hc,hd,_⟩
   ·
    obtain ⟨_,its,r,o,ho,hc,n,hd,hn⟩:=hk.ok I.hok
    refine ⟨⟨o,ho,hc⟩,fun a e => ?_⟩
    cases e
    exact ⟨o,ho,hn⟩
   ·
    refine ⟨⟨o,I.kIn p o hk,hc⟩,fun a e => ?_⟩
    cases e
    exact ⟨o,I.kIn _ o hk,hd⟩
  ·
   have z : ∃ o,s.heap.get? p = some o /\ o.ExactDict:=by
    rcases hk with ⟨kvs,hk⟩ | ⟨kvs,hk⟩
    ·
     obtain ⟨_,_,_,_,o,_,_,e,ex,_⟩:=I.hok p _ hk
     exact ⟨o,e,ex⟩
    ·
     obtain ⟨_,_,_,_,o,_,_,e,ex,_⟩:=I.hok p _ hk
     exact ⟨o,e,ex⟩
   obtain ⟨o,e,ex⟩:=z
   refine ⟨⟨o,e,ex.1⟩,fun a e2 => ?_⟩
   cases e2
   exact ⟨o,e,ex.2.1⟩
  ·
   obtain ⟨o,_,_,_,e,ex,_⟩:=I.hok p _ hk
   refine ⟨⟨o,e,ex.1⟩,fun a e2 => ?_⟩
   cases e2
   exact ⟨o,e,ex.2.1⟩
 | _ => exact False.elim ty
def tBM0 (K : PySem.W.Frag) (T : String) (r : V -> List V -> Hp -> VK -> Prop) (to : TE) : TE:=fun σ H Q => to σ H fun x H1 => tyV K T x H1 /\ r x [] H1 Q
def tBM (K : PySem.W.Frag) (T : String) (r : V -> List V -> Hp -> VK -> Prop) (to : TE) (t : TA) : TE:=fun σ H Q => to σ H fun x H1 => tyV K T x H1 /\ t σ H1 fun xs H2 => r x xs H2 Q
variable {o e : Expr} {es : List Expr} {to : TE} {t : TA} {name : Str} {apos cpos : Pos} {T id : String} {r : V -> List V -> Hp -> VK -> Prop}
theorem pe_bm0 (pa : PlainAttrs T) (slot : Slot T name id) (hty : typeOf (.builtin id) = pure (.type "method_descriptor")) (hm : MtR X id r) (ho : PE X o to)
  (hbase : attributeBase o name X.env (eval o X.env) = eval o X.env:=by rfl) (hline : (apos.endLine == cpos.line) = true:=by rfl) : PE X (.Call (.Attribute o name apos) [] [] cpos) (tBM0 X.K T r to):=by
 intro pins s σ H Q I h
 refine wpAny_Call_method0_late hbase hline (thn (ho pins s σ H _ I h) fun v s1 ⟨x,H1,I1,r1,ty,q1⟩ => ?_)
 obtain ⟨h1,h2⟩:=tyV_is I1 r1 ty
 exact ⟨T,id,pa,slot,hty,h1,h2,Calls.callWith_builtin rfl (PySem.evalArgs_none (hm pins s1 σ H1 x [] v [] Q I1 r1 .nil q1))⟩
theorem pe_bm (pa : PlainAttrs T) (slot : Slot T name id) (hty : typeOf (.builtin id) = pure (.type "method_descriptor")) (hm : MtR X id r) (ho : PE X o to) (ha : PA X (e :: es) t)
  (hbase : attributeBase o name X.env (eval o X.env) = eval o X.env:=by rfl)
  (hfew : ((backTo cpos (starEach (e :: es) X.env)).all (fun x => !x.1) && (backToKw cpos (keywordEach [] X.env)).all (fun x => x.1.isSome)
   && decide ((e :: es).length + ([] : List Keyword).length + (if ([] : List Keyword).isEmpty then 0 else 1) < 30)) = true:=by rfl)
  (hline : (apos.endLine == cpos.line) = true:=by rfl) (hs : starEach (e :: es) X.env = (false,eval e X.env) :: starEach es X.env:=by rfl) (hplain : (backTo cpos (starEach es X.env)).any (·.1) = false:=by rfl) :
  PE X (.Call (.Attribute o name apos) (e :: es) [] cpos) (tBM X.K T r to t):=by
 intro pins s σ H Q I h
 refine wpAny_Call_method_late hbase hfew hline rfl (thn (ho pins s σ H _ I h) fun v s1 ⟨x,H1,I1,r1,ty,q1⟩ => ?_)
 obtain ⟨h1,h2⟩:=tyV_is I1 r1 ty
 refine ⟨T,id,pa,slot,hty,h1,h2,?_⟩
 have hA:=ha cpos pins s1 σ H1 _ I1 q1
 rw [hs] at hA ⊢
 refine Calls.callWith_builtin (by show (false || (backTo cpos (starEach es X.env)).any (·.1)) = false; rw [hplain] <;> rfl) (Calls.evalArgs_plain ?_)
 exact thn hA fun us s2 ⟨vs,H2,I2,r2,q2⟩ => hm pins s2 σ H2 x vs v us Q I2 r1 r2 q2
/- xs.append(e),list.index on a module's tuple .. are MtR facts of 06m -/
end
end L2
namespace L2
open PySem PySem.Spec PyProof.Rows
def MtM (X : Cx) (id : String) (r : V -> List V -> Hp -> VK -> Prop) : Prop :=
 ∀ (pins : List (Addr × Obj)) (s : Shared) (σ : St) (H : Hp) (x : V) (xs : List V) (v : Value) (us : List Value) (Q : VK),Inv X pins σ H s -> RelV x v -> Vals xs us -> r x xs H Q ->
  wpAny (model X.prog X.w) X.A (call (.builtin id) (v :: us)) (EP X pins σ Q) X.xe s
theorem Vals.one {x : V} {us : List Value} (r : Vals [x] us) : ∃ u,us = [u] /\ RelV x u:=vals1 r
theorem Vals.two {x y : V} {us : List Value} (r : Vals [x,y] us) : ∃ u v,us = [u,v] /\ RelV x u /\ RelV y v:=vals2 r
theorem Vals.zero : ∀ {us : List Value},Vals [] us -> us = []
 | _,.nil => rfl
theorem Vals.dropLast {xs : List V} {us : List Value} (h : Vals xs us) : Vals xs.dropLast us.dropLast:=by
 induction h with
 | nil => exact .nil
 | cons r t ih =>
  cases t with
  | nil => exact .nil
  | cons q t' => exact .cons r ih
theorem Vals.eraseIdx : ∀ {xs : List V} {us : List Value} (i : Nat),Vals xs us -> Vals (xs.eraseIdx i) (us.eraseIdx i)
 | _,_,_,.nil => .nil
 | _,_,0,.cons _ t => t
 | _,_,i + 1,.cons r t => .cons r (Vals.eraseIdx i t)
theorem Vals.reverse {xs : List V} {us : List Value} (h : Vals xs us) : Vals xs.reverse us.reverse:=by
 induction h with
 | nil => exact .nil
 | cons r t ih => rw [List.reverse_cons,List.reverse_cons]; exact Vals.append ih (.cons r .nil)
theorem Vals.rep {xs : List V} {us : List Value} (h : Vals xs us) : ∀ k : Nat,Vals (List.replicate k xs).flatten (List.replicate k us).flatten
 | 0 => .nil
 | k + 1 => by
  rw [List.replicate_succ,List.replicate_succ,List.flatten_cons,List.flatten_cons]
  exact Vals.append h (Vals.rep h k)
theorem erase_last {α : Type} (l : List α) : l.eraseIdx (l.length - 1) = l.dropLast:=by
 induction l with
 | nil => rfl
 | cons a r ih =>
  cases r with
  | nil => rfl
  | cons b r =>
   have e : (a :: b :: r).length - 1 = ((b :: r).length - 1) + 1:=by
    have h1 : (a :: b :: r).length = r.length + 2:=rfl
    have h2 : (b :: r).length = r.length + 1:=rfl
    omega
   rw [e,List.eraseIdx_cons_succ,ih]
   all_goals rfl
theorem len_erase {α : Type} : ∀ (l : List α) (i : Nat),(l.eraseIdx i).length <= l.length
 | [],_ => Nat.le_refl _
 | _ :: _,0 => Nat.le_succ _
 | _ :: r,i + 1 => Nat.succ_le_succ (len_erase r i)
theorem foldl_rep (its : List Value) : ∀ (k : Nat) (acc : List Value),
  List.foldl (fun x1 x2 => x1 ++ x2) acc.toArray (List.replicate k its.toArray) = (acc ++ (List.replicate k its).flatten).toArray
 | 0,acc => by simp
 | k + 1,acc => by
  have e : acc.toArray ++ its.toArray = (acc ++ its).toArray:=by simp
  have e2 : (acc ++ its) ++ (List.replicate k its).flatten = acc ++ (List.replicate (k + 1) its).flatten:=by
   rw [List.replicate_succ,List.flatten_cons,List.append_assoc]
  rw [<- e2,<- foldl_rep its k (acc ++ its),<- e,List.replicate_succ,List.foldl_cons]
section
variable {X : Cx} {pins : List (Addr × Obj)} {σ : St} {H : Hp} {s : Shared} {l b : Addr} {xs ys zs : List V}
theorem Inv.lset {its its' : List Value} {n : Nat} {f : Array Value -> Array Value} {t' : Nat} (I : Inv X pins σ H s) (hH : H l = some (.lst xs))
  (e : s.heap.get? l = some { cls:=.type "list",data:=.seq its.toArray n }) (hf : f its.toArray = its'.toArray) (hv : Vals ys its') (hz : ys.length <= sizeLine) :
  Inv X pins σ (upd H l (.lst ys)) { s with heap:=s.heap.update l (Obj.mapSeq f),toks:=t' }:=by
 have q:=PySem.IsL.update e f
 rw [hf] at q
 refine I.write (x:=l) (e:=l) (by rw [hH]; exact trivial) (.inl rfl) (fun b' u hb hu => (Heap.get?_update_other s.heap (Obj.mapSeq f) (Ne.symm hb)).trans hu) ⟨_,q⟩ ?_
 exact ⟨hz,its',_,hv,q⟩
theorem Inv.lnew {its : List Value} {t' : Nat} (I : Inv X pins σ H s) (hv : Vals ys its) (hz : ys.length <= sizeLine) :
  Inv X pins σ (upd H s.heap.objs.size (.lst ys)) { s with heap:=s.heap.push { cls:=.type "list",data:=.seq its.toArray },toks:=t' } :=
 I.laid (fun _ _ q => Heap.get?_push_of_some _ q) (Nat.le_refl _) ⟨hz,its,0,hv,Heap.get?_push_size _ rfl⟩
theorem Inv.fresh (I : Inv X pins σ H s) : H s.heap.objs.size = none:=I.hok.fresh (Nat.le_refl _)
theorem Inv.lstM (I : Inv X pins σ H s) (hH : H l = some (.lst xs)) : xs.length <= sizeLine /\ ∃ (its : List Value) (n : Nat),Vals xs its /\ xs.length = its.length /\ s.heap.get? l = some { cls:=.type "list",data:=.seq its.toArray n }:=by
 obtain ⟨z,its,n,r,e⟩:=I.hok l _ hH
 exact ⟨z,its,n,r,r.length,e⟩
theorem notLongL {n : Nat} (h : n <= sizeLine) : Builtin.List.listTooLong n = false:=by
 unfold Builtin.List.listTooLong
 exact decide_eq_false (by omega)
end
section
variable {X : Cx}
def rAppend : V -> List V -> Hp -> VK -> Prop:=fun x vs H Q => ∃ l xs y,x = .ref l /\ vs = [y] /\ H l = some (.lst xs) /\ xs.length < sizeLine /\ Q .non (upd H l (.lst (xs ++ [y])))
theorem mt_append : MtM X "list.append" rAppend:=by
 intro pins s σ H x vs v us Q I rx rv h
 obtain ⟨l,xs,y,rfl,rfl,hH,hz,q⟩:=h
 cases rx
 obtain ⟨u,rfl,ru⟩:=rv.one
 obtain ⟨z,its,n,r,hl,e⟩:=I.lstM hH
 refine call_meets F.slot_list_append ⟨_,e,rfl⟩ F.entry_list_append (F.args_list_append_2 _ _) (PySem.list_append l its.toArray n u (by rw [List.size_toArray]; omega)) ⟨e,?_⟩
 refine ⟨.non,_,I.lset (its':=its ++ [u]) hH e (by simp) (r.append (.cons ru .nil)) ?_,rfl,q⟩
 rw [List.length_append,List.length_singleton]
 omega
def rPop : V -> List V -> Hp -> VK -> Prop:=fun x vs H Q => ∃ l xs y,x = .ref l /\ vs = [] /\ H l = some (.lst xs) /\ xs[xs.length - 1]? = some y /\ Q y (upd H l (.lst xs.dropLast))
theorem mt_pop : MtM X "list.pop" rPop:=by
 intro pins s σ H x vs v us Q I rx rv h
 obtain ⟨l,xs,y,rfl,rfl,hH,hy,q⟩:=h
 cases rx
 have hus:=rv.zero
 subst hus
 obtain ⟨z,its,n,r,hl,e⟩:=I.lstM hH
 obtain ⟨u,hu,ru⟩:=r.get hy
 have hy' : its.toArray[its.toArray.size - 1]? = some u:=by
  show its.toArray[its.length - 1]? = some u
  rw [<- Array.getElem?_toList,<- hl]
  exact hu
 refine call_meets F.slot_list_pop ⟨_,e,rfl⟩ F.entry_list_pop (F.args_list_pop_1 _) (MeetsSeq.list_pop_last l its.toArray n u hy' (by rw [List.size_toArray]; omega)) ⟨e,?_⟩
 refine ⟨y,_,I.lset (its':=its.dropLast) hH e ?_ r.dropLast ?_,ru,q⟩
 ·
  show its.toArray.eraseIdxIfInBounds (its.toArray.size - 1) = its.dropLast.toArray
  rw [List.size_toArray,List.eraseIdxIfInBounds_toArray,erase_last]
 ·
  rw [List.length_dropLast]
  omega
def rPopAt : V -> List V -> Hp -> VK -> Prop:=fun x vs H Q => ∃ l xs i k y,x = .ref l /\ vs = [.int i] /\ H l = some (.lst xs) /\ -(2 ^ 63) <= i /\ i < 2 ^ 63 /\ seqIndex? i xs.length = some k /\ xs[k]? = some y /\ Q y (upd H l (.lst (xs.eraseIdx k)))
theorem mt_popAt : MtM X "list.pop" rPopAt:=by
 intro pins s σ H x vs v us Q I rx rv h
 obtain ⟨l,xs,i,k,y,rfl,rfl,hH,h1,h2,hk,hy,q⟩:=h
 cases rx
 obtain ⟨u,rfl,ru⟩:=rv.one
 obtain ⟨t,rfl⟩:=ru
 obtain ⟨z,its,n,r,hl,e⟩:=I.lstM hH
 obtain ⟨w,hw,rw'⟩:=r.get hy
 refine call_meets F.slot_list_pop ⟨_,e,rfl⟩ F.entry_list_pop (F.args_list_pop_2 _ _)
  (MeetsSeq.list_pop_at l its.toArray n i t k w (fitsIndex_both h1 h2) (by rw [List.size_toArray,<- hl]; exact hk) (by rw [<- Array.getElem?_toList]; exact hw) (by rw [List.size_toArray]; omega)) ⟨e,?_⟩
 refine ⟨y,_,I.lset (its':=its.eraseIdx k) hH e ?_ (r.eraseIdx k) ?_,rw',q⟩
 ·
  show its.toArray.eraseIdxIfInBounds k = (its.eraseIdx k).toArray
  rw [List.eraseIdxIfInBounds_toArray]
 ·
  have:=len_erase xs k
  omega
def rCat : R2:=fun x y H Q => ∃ l b xs zs,x = .ref l /\ y = .ref b /\ H l = some (.lst xs) /\ H b = some (.lst zs) /\ xs.length + zs.length <= sizeLine /\ ∀ p,H p = none -> Q (.ref p) (upd H p (.lst (xs ++ zs)))
theorem op_cat : OpR X (binaryOp .Add) rCat:=by
 intro pins s σ H x y v u Q I rx ry h
 obtain ⟨l,b,xs,zs,rfl,rfl,hH,hB,hz,q⟩:=h
 cases rx
 cases ry
 obtain ⟨z,its,n,r,hl,e⟩:=I.lstM hH
 obtain ⟨z2,its2,n2,r2,hl2,e2⟩:=I.lstM hB
 refine PySem.P.add_list e e2 ?_ (by rw [List.size_toArray,List.size_toArray]; omega)
 have ea : its.toArray ++ its2.toArray = (its ++ its2).toArray:=by simp
 rw [ea]
 exact ⟨.ref _,_,I.lnew (t':=s.toks) (r.append r2) (by rw [List.length_append]; omega),rfl,q _ I.fresh⟩
def rRep : R2:=fun x y H Q => ∃ l k xs,x = .ref l /\ y = .int k /\ H l = some (.lst xs) /\ -(2 ^ 63) <= k /\ k < 2 ^ 63 /\ xs.length * k.toNat <= sizeLine /\
 ∀ p,H p = none -> Q (.ref p) (upd H p (.lst (List.replicate k.toNat xs).flatten))
theorem len_rep {α : Type} (xs : List α) (k : Nat) : (List.replicate k xs).flatten.length = k * xs.length:=by
 induction k with
 | zero => simp
 | succ k ih => rw [List.replicate_succ,List.flatten_cons,List.length_append,ih,Nat.succ_mul,Nat.add_comm]
theorem op_rep : OpR X (binaryOp .Mult) rRep:=by
 intro pins s σ H x y v u Q I rx ry h
 obtain ⟨l,k,xs,rfl,rfl,hH,h1,h2,hz,q⟩:=h
 cases rx
 obtain ⟨t,rfl⟩:=ry
 obtain ⟨z,its,n,r,hl,e⟩:=I.lstM hH
 have hlen : its.toArray.size * k.toNat <= sizeLine:=by rw [List.size_toArray,<- hl]; exact hz
 have hcap : ¬ its.toArray.size * k.toNat > (2 ^ 63 - 1) / 8:=by
  have : (sizeLine : Nat) <= (2 ^ 63 - 1) / 8:=by decide
  omega
 have hfit : ¬ (!Builtin.List.listFitsIndex k) = true:=by
  rw [fitsIndex_both h1 h2]
  exact Bool.false_ne_true
 have hlong : ¬ Builtin.List.listTooLong (its.toArray.size * k.toNat) = true:=by
  rw [notLongL hlen]
  exact Bool.false_ne_true
 have hnew : List.foldl (fun x1 x2 => x1 ++ x2) #[] (List.replicate (if its.toArray.isEmpty = true then 0 else k.toNat) its.toArray) = (List.replicate k.toNat its).flatten.toArray:=by
  have f0 : ∀ m : Nat,List.foldl (fun x1 x2 => x1 ++ x2) #[] (List.replicate m its.toArray) = (List.replicate m its).flatten.toArray:=fun m => by
   have:=foldl_rep its m []
   rw [List.nil_append] at this
   exact this
  rw [f0]
  cases its with
  | nil => simp
  | cons a r' => rw [if_neg (by simp)]
 refine wpAny_binaryOp_repeat_ref (T:="list") (U:="int") (by decide) ⟨_,e,rfl⟩ (fun s' => typeIs_int s' k t) noFill_list_mul F.fills_int_mul F.slot_int_rmul repeat_list F.slot_int_index.lookup
  (call_meets F.slot_int_rmul (typeIs_int s k t) F.entry_int_rmul (F.args_int_rmul_2 _ _) (int___rmul___int_list k t l its.toArray n)
   ⟨e,rfl,⟨_,e,rfl⟩,call_meets F.slot_list_mul ⟨_,e,rfl⟩ F.entry_list_mul (F.args_list_mul_2 _ _) (AutoListH.list___mul___list_int_3 l its.toArray n k t hfit hcap hlong) ⟨e,?_⟩⟩)
 rw [hnew]
 exact ⟨.ref _,_,I.lnew (t':=s.toks) (r.rep k.toNat) (by rw [len_rep,Nat.mul_comm]; exact hz),rfl,q _ I.fresh⟩
end
section
variable {prog : Program} {w : World} {A : Around} {E : Value -> Shared -> Prop} {s : Shared}
set_option maxRecDepth 100000 in
end
section
variable {X : Cx}
end
end L2
namespace L2
open PySem PySem.Spec PyProof.Rows
section
variable {κ : Type} [DecidableEq κ]
noncomputable def valV (kvs : List (κ × V)) (k : κ) : Option V:=(kvs.find? fun kv => decide (kv.1 = k)).map (·.2)
noncomputable def putK (kvs : List (κ × V)) (k : κ) (v : V) : List (κ × V) :=
 if (kvs.any fun kv => decide (kv.1 = k)) = true then kvs.map (fun kv => if kv.1 = k then (kv.1,v) else kv) else kvs ++ [(k,v)]
noncomputable def dropK (kvs : List (κ × V)) (k : κ) : List (κ × V):=kvs.filter fun kv => decide (kv.1 ≠ k)
theorem valV_pos {p : κ × V} {r : List (κ × V)} {k : κ} (e : p.1 = k) : valV (p :: r) k = some p.2:=by simp [valV,List.find?_cons,e]
theorem valV_neg {p : κ × V} {r : List (κ × V)} {k : κ} (e : ¬ p.1 = k) : valV (p :: r) k = valV r k:=by simp [valV,List.find?_cons,e]
theorem valV_any (k : κ) : ∀ kvs : List (κ × V),(kvs.any fun kv => decide (kv.1 = k)) = (valV kvs k).isSome
 | [] => rfl
 | p :: r => by
  rw [List.any_cons]
  by_cases e : p.1 = k
  ·
   simp only [valV_pos e,decide_eq_true e,Bool.true_or,Option.isSome_some]
  ·
   rw [valV_neg e,decide_eq_false e,Bool.false_or]; exact valV_any k r
theorem length_putK (kvs : List (κ × V)) (k : κ) (v : V) : (putK kvs k v).length <= kvs.length + 1:=by
 unfold putK
 split
 ·
  rw [List.length_map]; omega
 ·
  rw [List.length_append,List.length_cons,List.length_nil]; omega
theorem RelO.isSome_eq {o : Option V} {u : Option Value} (r : RelO o u) : o.isSome = u.isSome:=by
 cases o with
 | none => cases u with
  | none => rfl
  | some _ => exact (show False from r).elim
 | some _ => cases u with
  | none => exact (show False from r).elim
  | some _ => rfl
theorem RelO.getD {o : Option V} {u : Option Value} {d : V} {d' : Value} (r : RelO o u) (rd : RelV d d') : RelV (o.getD d) (u.getD d'):=by
 cases o with
 | none => cases u with
  | none => exact rd
  | some _ => exact (show False from r).elim
 | some _ => cases u with
  | none => exact (show False from r).elim
  | some _ => exact r
theorem KV.val {kvs : List (κ × V)} {vs : List (κ × Value)} (r : KV kvs vs) (k : κ) : RelO (valV kvs k) (valueAt vs k):=by
 unfold KV at r
 induction r with
 | nil => exact True.intro
 | @cons p q ps qs h t ih =>
  obtain ⟨h1,h2⟩:=h
  by_cases e : p.1 = k
  ·
   have e' : q.1 = k:=h1.symm.trans e
   have b : valueAt (q :: qs) k = some q.2:=by simp [valueAt,List.find?_cons,e']
   rw [valV_pos e,b]; exact h2
  ·
   have e' : ¬ q.1 = k:=fun z => e (h1.trans z)
   have b : valueAt (q :: qs) k = valueAt qs k:=by simp [valueAt,List.find?_cons,e']
   rw [valV_neg e,b]; exact ih
theorem KV.any {kvs : List (κ × V)} {vs : List (κ × Value)} (r : KV kvs vs) (k : κ) : (kvs.any fun kv => decide (kv.1 = k)) = vs.any fun kv => decide (kv.1 = k):=by
 unfold KV at r
 induction r with
 | nil => rfl
 | cons h t ih => rw [List.any_cons,List.any_cons,ih,h.1]
theorem KV.repl {kvs : List (κ × V)} {vs : List (κ × Value)} (r : KV kvs vs) (k : κ) {y : V} {u : Value} (ry : RelV y u) :
  KV (kvs.map fun kv => if kv.1 = k then (kv.1,y) else kv) (vs.map fun kv => if kv.1 = k then (kv.1,u) else kv):=by
 unfold KV at r ⊢
 induction r with
 | nil => exact .nil
 | @cons p q ps qs h t ih =>
  rw [List.map_cons,List.map_cons]
  refine .cons ?_ ih
  obtain ⟨h1,h2⟩:=h
  by_cases e : p.1 = k
  ·
   rw [if_pos e,if_pos (h1.symm.trans e)]; exact ⟨h1,ry⟩
  ·
   rw [if_neg e,if_neg (fun z => e (h1.trans z))]; exact ⟨h1,h2⟩
theorem KV.put {kvs : List (κ × V)} {vs : List (κ × Value)} (r : KV kvs vs) (k : κ) {y : V} {u : Value} (ry : RelV y u) : KV (putK kvs k y) (stored vs k u):=by
 unfold putK stored
 rw [r.any k]
 by_cases e : (vs.any fun kv => decide (kv.1 = k)) = true
 ·
  rw [if_pos e,if_pos e]; exact r.repl k ry
 ·
  rw [if_neg e,if_neg e]; exact Paired.snoc r ⟨rfl,ry⟩
theorem KV.drop {kvs : List (κ × V)} {vs : List (κ × Value)} (r : KV kvs vs) (k : κ) : KV (dropK kvs k) (without vs k):=by
 unfold KV at r ⊢
 unfold dropK without
 induction r with
 | nil => exact .nil
 | @cons p q ps qs h t ih =>
  obtain ⟨h1,h2⟩:=h
  rw [List.filter_cons,List.filter_cons]
  by_cases e : p.1 = k
  ·
   have a : ¬ decide (p.1 ≠ k) = true:=by simp [e]
   have b : ¬ decide (q.1 ≠ k) = true:=by simp [h1.symm.trans e]
   rw [if_neg a,if_neg b]; exact ih
  ·
   have e' : ¬ q.1 = k:=fun z => e (h1.trans z)
   have a : decide (p.1 ≠ k) = true:=by simp [e]
   have b : decide (q.1 ≠ k) = true:=by simp [e']
   rw [if_pos a,if_pos b]; exact .cons ⟨h1,h2⟩ ih
theorem KV.keys {kvs : List (κ × V)} {vs : List (κ × Value)} (r : KV kvs vs) : kvs.map (·.1) = vs.map (·.1):=by
 unfold KV at r
 induction r with
 | nil => rfl
 | cons h t ih => rw [List.map_cons,List.map_cons,ih,h.1]
theorem KV.length {kvs : List (κ × V)} {vs : List (κ × Value)} (r : KV kvs vs) : kvs.length = vs.length:=Paired.length r
end
theorem kV_is {P : Program} {w : World} {k : Key} {u : Value} (r : RelV (kV k) u) : (mixKind P w).is k u = true:=by
 cases k with
 | inl i => obtain ⟨t,e⟩:=(show ∃ t,u = Value.int i t from r); subst e; exact mixKind_int P w i t
 | inr x => obtain ⟨t,e⟩:=(show ∃ t,u = Value.str x t from r); subst e; exact mixKind_str P w x t
theorem items_are {P : Program} {w : World} : ∀ {ks : List Key} {us : List Value},Vals (ks.map kV) us -> ItemsAre (mixKind P w) ks us
 | [],_,r => by rw [List.map_nil] at r; cases r; exact .nil
 | k :: ks,_,r => by
  rw [List.map_cons] at r
  cases r with
  | cons h t => exact .cons (kV_is h) (items_are t)
abbrev KT (H : Hp) : List (List Key × V) -> List (List Key × Addr × Value) -> Prop:=Paired fun p q => p.1 = q.1 /\ H q.2.1 = some (.tup (p.1.map kV)) /\ RelV p.2 q.2.2
theorem KT.val {H : Hp} {kvs : List (List Key × V)} {xs : List (List Key × Addr × Value)} (r : KT H kvs xs) (k : List Key) : RelO (valV kvs k) ((atKey xs k).map (·.2)):=by
 induction r with
 | nil => exact True.intro
 | @cons p q ps qs h t ih =>
  obtain ⟨h1,_,h2⟩:=h
  by_cases e : p.1 = k
  ·
   have e' : q.1 = k:=h1.symm.trans e
   have b : atKey (q :: qs) k = some q.2:=by simp [atKey,List.find?_cons,e']
   rw [valV_pos e,b]; exact h2
  ·
   have e' : ¬ q.1 = k:=fun z => e (h1.trans z)
   have b : atKey (q :: qs) k = atKey qs k:=by simp [atKey,List.find?_cons,e']
   rw [valV_neg e,b]; exact ih
theorem KT.repl {H : Hp} {kvs : List (List Key × V)} {xs : List (List Key × Addr × Value)} (r : KT H kvs xs) (k : List Key) {y : V} {u : Value} (ry : RelV y u) :
  KT H (kvs.map fun kv => if kv.1 = k then (kv.1,y) else kv) (xs.map (putAt k u)):=by
 induction r with
 | nil => exact .nil
 | @cons p q ps qs h t ih =>
  rw [List.map_cons,List.map_cons]
  refine .cons ?_ ih
  obtain ⟨h1,h2,h3⟩:=h
  unfold putAt
  by_cases e : p.1 = k
  ·
   rw [if_pos e,if_pos (h1.symm.trans e)]; exact ⟨h1,h2,ry⟩
  ·
   rw [if_neg e,if_neg (fun z => e (h1.trans z))]; exact ⟨h1,h2,h3⟩
theorem KT.put {H : Hp} {kvs : List (List Key × V)} {xs : List (List Key × Addr × Value)} (r : KT H kvs xs) (k : List Key) {b : Addr} {y : V} {u : Value} (hb : H b = some (.tup (k.map kV))) (ry : RelV y u) :
  KT H (putK kvs k y) (storedH xs k b u):=by
 have e : (kvs.any fun kv => decide (kv.1 = k)) = (atKey xs k).isSome:=by
  rw [valV_any,(r.val k).isSome_eq,Option.isSome_map]
 unfold putK storedH
 rw [e]
 by_cases q : (atKey xs k).isSome = true
 ·
  rw [if_pos q,if_pos q]; exact r.repl k ry
 ·
  rw [if_neg q,if_neg q]; exact Paired.snoc r ⟨rfl,hb,ry⟩
theorem KT.keeps {H H' : Hp} {kvs : List (List Key × V)} {xs : List (List Key × Addr × Value)} (r : KT H kvs xs) (ht : ∀ b ys,H b = some (.tup ys) -> H' b = some (.tup ys)) : KT H' kvs xs :=
 Paired.mapP r fun _ _ z => ⟨z.1,ht _ _ z.2.1,z.2.2⟩
section
variable {P : Program} {w : World} {H : Hp} {h : Heap} {a : Addr}
theorem rd_of {u : HO} (ok : HOk P w H h) (e : Rd H a u) : ObjOk P w H h a u:=e.ok ok
theorem dk_rd {kvs : List (Key × V)} (ok : HOk P w H h) (e : Rd H a (.dK kvs)) : kvs.length <= sizeLine /\ (a == sysModules) = false /\ ∃ vs,KV kvs vs /\ h.DictOf (mixKind P w) a vs :=
 show ObjOk P w H h a (.dK kvs) from rd_of ok e
theorem dk_of {kvs : List (Key × V)} (ok : HOk P w H h) (e : H a = some (.dK kvs)) : kvs.length <= sizeLine /\ (a == sysModules) = false /\ ∃ vs,KV kvs vs /\ h.DictOf (mixKind P w) a vs:=dk_rd ok (.inl e)
theorem key_of {ks : List Key} (ok : HOk P w H h) (e : H a = some (.tup (ks.map kV))) : (tupleKind (mixKind P w)).is h ks a:=by
 obtain ⟨_,its,r,o,h1,h2,n,h3,_⟩:=(show ObjOk P w H h a (.tup (ks.map kV)) from ok a _ e)
 exact ⟨o,its.toArray,n,h1,h2,h3,by simpa using items_are r⟩
theorem dt_rd {kvs : List (List Key × V)} (ok : HOk P w H h) (e : Rd H a (.dT kvs)) : kvs.length <= sizeLine /\ (a == sysModules) = false /\
  ∃ xs,KT H kvs xs /\ h.DictOfH (tupleKind (mixKind P w)) a xs:=by
 obtain ⟨z,y,xs,r,o,es,ep,h1,h2,h3,h4,h5⟩:=(show ObjOk P w H h a (.dT kvs) from rd_of ok e)
 refine ⟨z,y,xs,r,o,es,ep,h1,h2,h3,h4,fun x hx => ?_,h5⟩
 have all : ∀ {l : List (List Key × V)} {m : List (List Key × Addr × Value)},KT H l m -> ∀ x ∈ m,(tupleKind (mixKind P w)).is h x.1 x.2.1:=by
  intro l m q
  induction q with
  | nil => intro x hx; exact nomatch hx
  | @cons p q ps qs hq t ih =>
   intro x hx
   rcases List.mem_cons.mp hx with e | hx
   ·
    subst e
    exact key_of ok (by rw [<- hq.1]; exact hq.2.1)
   ·
    exact ih x hx
 exact all r x hx
theorem dt_of {kvs : List (List Key × V)} (ok : HOk P w H h) (e : H a = some (.dT kvs)) : kvs.length <= sizeLine /\ (a == sysModules) = false /\
  ∃ xs,KT H kvs xs /\ h.DictOfH (tupleKind (mixKind P w)) a xs:=dt_rd ok (.inl e)
end
def DGet (H : Hp) (a : Addr) (y : V) (r : Option V) : Prop :=
 (∃ kvs k,Rd H a (.dK kvs) /\ y = kV k /\ r = valV kvs k) \/ ∃ kvs k b,Rd H a (.dT kvs) /\ y = .ref b /\ H b = some (.tup (k.map kV)) /\ r = valV kvs k
def DPut (H : Hp) (a : Addr) (y v : V) (H' : Hp) : Prop :=
 (∃ kvs k,H a = some (.dK kvs) /\ y = kV k /\ kvs.length < sizeLine /\ H' = upd H a (.dK (putK kvs k v))) \/
 ∃ kvs k b,H a = some (.dT kvs) /\ y = .ref b /\ H b = some (.tup (k.map kV)) /\ kvs.length < sizeLine /\ H' = upd H a (.dT (putK kvs k v))
theorem DGet.k {H : Hp} {a : Addr} {kvs : List (Key × V)} {k : Key} (e : H a = some (.dK kvs)) : DGet H a (kV k) (valV kvs k):=.inl ⟨kvs,k,.inl e,rfl,rfl⟩
theorem DGet.t {H : Hp} {a b : Addr} {kvs : List (List Key × V)} {k : List Key} (e : H a = some (.dT kvs)) (eb : H b = some (.tup (k.map kV))) : DGet H a (.ref b) (valV kvs k):=.inr ⟨kvs,k,b,.inl e,rfl,eb,rfl⟩
theorem DPut.k {H : Hp} {a : Addr} {kvs : List (Key × V)} {k : Key} {v : V} (e : H a = some (.dK kvs)) (hl : kvs.length < sizeLine) : DPut H a (kV k) v (upd H a (.dK (putK kvs k v))):=.inl ⟨kvs,k,e,rfl,hl,rfl⟩
theorem DPut.t {H : Hp} {a b : Addr} {kvs : List (List Key × V)} {k : List Key} {v : V} (e : H a = some (.dT kvs)) (eb : H b = some (.tup (k.map kV))) (hl : kvs.length < sizeLine) :
  DPut H a (.ref b) v (upd H a (.dT (putK kvs k v))):=.inr ⟨kvs,k,b,e,rfl,eb,hl,rfl⟩
section
variable {X : Cx} {pins : List (Addr × Obj)} {σ : St} {H : Hp} {s : Shared} {a : Addr} {y v : V} {u r : Value} {o : Option V} {A : Around} {E : Value -> Shared -> Prop}
theorem Inv.big (I : Inv X pins σ H s) : sysModules < s.heap.objs.size:=by
 have h : mainGlobals < s.heap.objs.size:=(I.mod.glob.keeps I.bk).lt
 exact Nat.lt_trans (by decide) h
theorem d_getItem {Q : Value -> Shared -> Prop} (hu : A.units + 1 < cLine) (I : Inv X pins σ H s) (g : DGet H a y (some v)) (ry : RelV y u) (h : ∀ w' s',Inv X pins σ H s' -> RelV v w' -> Q w' s') :
  wpAny (model X.prog X.w) A (getItem (.ref a) u) Q E s:=by
 rcases g with ⟨kvs,k,e,ey,l⟩ | ⟨kvs,k,b,e,ey,eb,l⟩
 ·
  subst ey
  obtain ⟨z,hd,vs,rel,dd⟩:=dk_rd I.hok e
  obtain ⟨w',hw,rw'⟩:=RelO.some_of (v:=v) (o:=valueAt vs k) (by rw [l]; exact rel.val k)
  exact wpAny_getItem_of (kV_is ry) dd.mapOf hw (h w' _ (I.tok _) rw')
 ·
  subst ey
  cases (show u = Value.ref b from ry)
  obtain ⟨z,hd,xs,rel,dd⟩:=dt_rd I.hok e
  obtain ⟨w',hw,rw'⟩:=RelO.some_of (v:=v) (o:=(atKey xs k).map (·.2)) (by rw [l]; exact rel.val k)
  obtain ⟨p,hp,hp2⟩:=Option.map_eq_some_iff.mp hw
  refine wpAny_getItem_heap (tupleKind_room_in1 hu) (key_of I.hok eb) dd hp ?_
  rw [hp2]
  exact h w' _ (I.tok _) rw'
theorem d_in {Q : Value -> Shared -> Prop} (hu : A.units + 1 < cLine) (I : Inv X pins σ H s) (g : DGet H a y o) (ry : RelV y u) (h : ∀ s',Inv X pins σ H s' -> Q (.bool o.isSome) s') :
  wpAny (model X.prog X.w) A (compareOp .In u (.ref a)) Q E s:=by
 rcases g with ⟨kvs,k,e,ey,l⟩ | ⟨kvs,k,b,e,ey,eb,l⟩
 ·
  subst ey
  obtain ⟨z,hd,vs,rel,dd⟩:=dk_rd I.hok e
  refine wpAny_in_of (kV_is ry) hd dd.mapOf ?_
  rw [<- (rel.val k).isSome_eq,<- l]
  exact h _ (I.tok _)
 ·
  subst ey
  cases (show u = Value.ref b from ry)
  obtain ⟨z,hd,xs,rel,dd⟩:=dt_rd I.hok e
  refine wpAny_in_heap (tupleKind_room_in1 hu) (key_of I.hok eb) hd dd ?_
  have q:=(rel.val k).isSome_eq
  rw [Option.isSome_map] at q
  rw [<- q,<- l]
  exact h _ (I.tok _)
theorem d_notIn {Q : Value -> Shared -> Prop} (hu : A.units + 1 < cLine) (I : Inv X pins σ H s) (g : DGet H a y o) (ry : RelV y u) (h : ∀ s',Inv X pins σ H s' -> Q (.bool (!o.isSome)) s') :
  wpAny (model X.prog X.w) A (compareOp .NotIn u (.ref a)) Q E s:=by
 rcases g with ⟨kvs,k,e,ey,l⟩ | ⟨kvs,k,b,e,ey,eb,l⟩
 ·
  subst ey
  obtain ⟨z,hd,vs,rel,dd⟩:=dk_rd I.hok e
  refine wpAny_notIn_of (kV_is ry) hd dd.mapOf ?_
  rw [<- (rel.val k).isSome_eq,<- l]
  exact h _ (I.tok _)
 ·
  subst ey
  cases (show u = Value.ref b from ry)
  obtain ⟨z,hd,xs,rel,dd⟩:=dt_rd I.hok e
  refine wpAny_notIn_heap (tupleKind_room_in1 hu) (key_of I.hok eb) hd dd ?_
  have q:=(rel.val k).isSome_eq
  rw [Option.isSome_map] at q
  rw [<- q,<- l]
  exact h _ (I.tok _)
theorem d_write {h' : Heap} {t' : Nat} {ob : HO} (I : Inv X pins σ H s) (mu : Mut (H a)) (hs : Heap.SameBut a s.heap h') (he : ∃ q,h'.get? a = some q) (new : ObjOk X.prog X.w (upd H a ob) h' a ob) :
  Inv X pins σ (upd H a ob) { s with heap:=h',toks:=t' } :=
 I.write (x:=a) (e:=a) mu (.inl rfl) (fun b q hb z => (hs.2 b hb).trans z) he new
theorem dk_new {P : Program} {w : World} {H' : Hp} {h' : Heap} {kvs : List (Key × V)} {vs : List (Key × Value)} (z : kvs.length <= sizeLine) (hd : (a == sysModules) = false) (rel : KV kvs vs) (dd : h'.DictOf (mixKind P w) a vs) :
  ObjOk P w H' h' a (.dK kvs):=⟨z,hd,vs,rel,dd⟩
theorem d_setItem {H' : Hp} {Q : Unit -> Shared -> Prop} (hu : A.units + 1 < cLine) (I : Inv X pins σ H s) (g : DPut H a y v H') (ry : RelV y u) (rv : RelV v r) (h : ∀ s',Inv X pins σ H' s' -> Q () s') :
  wpAny (model X.prog X.w) A (setItem (.ref a) u r) Q E s:=by
 rcases g with ⟨kvs,k,e,ey,l,eH⟩ | ⟨kvs,k,b,e,ey,eb,l,eH⟩
 ·
  subst ey eH
  obtain ⟨z,hd,vs,rel,dd⟩:=dk_of I.hok e
  have hz : vs.length <= sizeLine:=by rw [<- rel.length]; exact z
  have hl : (putK kvs k v).length <= sizeLine:=by have:=length_putK kvs k v; omega
  refine wpAny_setItem_pairs (hsz:=hz) (kV_is ry) dd fun h' dd' hs => h _ ?_
  have he : ∃ q,h'.get? a = some q:=let ⟨q,_,_,hq,_⟩:=dd'; ⟨q,hq⟩
  exact d_write I (by rw [e]; exact True.intro) hs he (dk_new hl hd (rel.put k rv) dd')
 ·
  subst ey eH
  cases (show u = Value.ref b from ry)
  obtain ⟨z,hd,xs,rel,dd⟩:=dt_of I.hok e
  have hz : xs.length <= sizeLine:=by rw [<- Paired.length rel]; exact z
  have hl : (putK kvs k v).length <= sizeLine:=by have:=length_putK kvs k v; omega
  refine wpAny_setItem_heap (hsz:=hz) (tupleKind_room_in1 hu) (key_of I.hok eb) dd fun h' dd' hs => h _ ?_
  obtain ⟨q,es,ep,hq,h2,h3,h4,_,h5⟩:=dd'
  refine d_write I (by rw [e]; exact True.intro) hs ⟨q,hq⟩ ⟨hl,hd,_,(rel.put k eb rv).keeps fun c ys ec => ?_,q,es,ep,hq,h2,h3,h4,h5⟩
  rw [upd_ne (ne_of ec e (fun z => nomatch z))]
  exact ec
end
section
variable {X : Cx} {pins : List (Addr × Obj)} {σ : St} {H : Hp} {s : Shared} {a : Addr} {kvs : List (Key × V)} {k : Key} {u : Value} {A : Around} {E : Value -> Shared -> Prop}
end
def NoSl (i : Expr) : Prop:=∀ ov iv,subscripted i false ov iv = operate [ov,iv] (getItem ov iv)
theorem subD_of {prog : Program} {w : World} {A : Around} {E : Value -> Shared -> Prop} {s : Shared} {env : Env} {value slice : Expr} {pos : Pos} {T id : String} {Q : Value -> Shared -> Prop}
  (hl : typeLookup (.type T) "__getitem__" = pure (some (.builtin id))) (hs : NoSl slice)
  (h : wpAny (model prog w) A (eval value env) (fun o s₁ => wpAny (model prog w) A (eval slice env) (fun i s₂ => s₂.TypeIs o T /\ wpAny (model prog w) A (getItem o i) Q E s₂) E s₁) E s) :
  wpAny (model prog w) A (eval (.Subscript value slice pos) env) Q E s:=by
 refine Subscript_ (wpAny_mono h (fun o s₁ h₁ => wpAny_mono h₁ (fun i s₂ h₂ => ?_) fun _ _ x => x) fun _ _ x => x)
 obtain ⟨hT,h₂⟩:=h₂
 unfold subscriptTail
 refine wpAny_bind ?_
 rw [getitemInPython_of_ne hT.not_modules]
 refine wpAny_bind (wpAny_specialOf hT hl ?_)
 have fin : wpAny (model prog w) A (subscripted slice false o i) (fun r s₃ => wpAny (model prog w) A (letTemporaryGo value o r >>= fun _ => pure r) Q E s₃) E s₂:=by
  rw [hs o i]
  exact wpAny_operating (wpAny_mono h₂ (fun r s₃ h₃ => wpAny_bind (wpAny_letTemporaryGo (wpAny_pure h₃))) fun _ _ x => x)
 first
  | exact wpAny_pure (wpAny_bind fin)
  | exact wpAny_bind (wpAny_pure (wpAny_bind fin))
  | exact wpAny_bind fin
theorem dict_typeIs {X : Cx} {pins : List (Addr × Obj)} {σ : St} {H : Hp} {s : Shared} {a : Addr} {y : V} {o : Option V} (I : Inv X pins σ H s) (g : DGet H a y o) : s.TypeIs (.ref a) "dict":=by
 rcases g with ⟨kvs,k,e,_,_⟩ | ⟨kvs,k,b,e,_,_,_⟩
 ·
  obtain ⟨_,_,vs,_,dd⟩:=dk_rd I.hok e
  exact dd.typeIs
 ·
  obtain ⟨_,_,xs,_,dd⟩:=dt_rd I.hok e
  exact dd.typeIs
def tDGet (td ty : TE) : TE:=fun σ H Q => td σ H fun x H1 => ty σ H1 fun y H2 => ∃ a v,x = .ref a /\ DGet H2 a y (some v) /\ Q v H2
def tDIn (ty td : TE) : TE:=fun σ H Q => ty σ H fun y H1 => td σ H1 fun x H2 => ∃ a o,x = .ref a /\ DGet H2 a y o /\ Q (.bl o.isSome) H2
def tDNotIn (ty td : TE) : TE:=fun σ H Q => ty σ H fun y H1 => td σ H1 fun x H2 => ∃ a o,x = .ref a /\ DGet H2 a y o /\ Q (.bl (!o.isSome)) H2
def sDPut (td ty tv : TE) : TS:=fun D σ H => tv σ H fun v H1 => td σ H1 fun x H2 => ty σ H2 fun y H3 => ∃ a H4,x = .ref a /\ DPut H3 a y v H4 /\ D.nx σ H4
section
variable {X : Cx} {o i e value : Expr} {pos pos' tpos : Pos} {td ty tv : TE}
theorem pe_dget (hu : X.A.units + 1 < cLine) (ho : PE X o td) (hi : PE X i ty) (hs : NoSl i) : PE X (.Subscript o i pos) (tDGet td ty):=by
 intro pins s σ H Q I h
 refine subD_of PySem.F.slot_dict_getitem.lookup hs (thn (ho pins s σ H _ I h) fun u s1 ⟨x,H1,I1,rx,q1⟩ => thn (hi pins s1 σ H1 _ I1 q1) fun iv s2 ⟨y,H2,I2,ry,a,v,ex,g,q2⟩ => ?_)
 subst ex
 obtain rfl : u = Value.ref a:=rx
 exact ⟨dict_typeIs I2 g,d_getItem hu I2 g ry fun w' s3 I3 rw' => ⟨v,H2,I3,rw',q2⟩⟩
theorem pc_din (hu : X.A.units + 1 < cLine) (hi : PE X i ty) (ho : PE X o td) : PC X .In i o (tDIn ty td):=by
 intro pins s σ H Q I h
 refine thn (hi pins s σ H _ I h) fun iv s1 ⟨y,H1,I1,ry,q1⟩ => thn (ho pins s1 σ H1 _ I1 q1) fun u s2 ⟨x,H2,I2,rx,a,ov,ex,g,q2⟩ => ?_
 subst ex
 obtain rfl : u = Value.ref a:=rx
 exact d_in hu I2 g ry fun s3 I3 => ⟨.bl ov.isSome,H2,I3,rfl,q2⟩
theorem pc_dnotin (hu : X.A.units + 1 < cLine) (hi : PE X i ty) (ho : PE X o td) : PC X .NotIn i o (tDNotIn ty td):=by
 intro pins s σ H Q I h
 refine thn (hi pins s σ H _ I h) fun iv s1 ⟨y,H1,I1,ry,q1⟩ => thn (ho pins s1 σ H1 _ I1 q1) fun u s2 ⟨x,H2,I2,rx,a,ov,ex,g,q2⟩ => ?_
 subst ex
 obtain rfl : u = Value.ref a:=rx
 exact d_notIn hu I2 g ry fun s3 I3 => ⟨.bl (!ov.isSome),H2,I3,rfl,q2⟩
theorem ps_dput (hu : X.A.units + 1 < cLine) (ho : PE X o td) (hi : PE X i ty) (hv : PE X value tv) (hs : swapsWith value (some (.Subscript o i pos')) pos.line X.env = pure false) :
  PS X (.Assign [.Subscript o i pos'] value pos) (sDPut td ty tv):=by
 intro pins s σ H D I h
 refine wpAny_Assign_Subscript (thn (hv pins s σ H _ I h) fun r s1 ⟨v,H1,I1,rv,q1⟩ => thn (ho pins s1 σ H1 _ I1 q1) fun u s2 ⟨x,H2,I2,rx,q2⟩ => thn (hi pins s2 σ H2 _ I2 q2) fun iv s3 ⟨y,H3,I3,ry,a,H4,ex,g,q3⟩ => ?_) hs
 subst ex
 obtain rfl : u = Value.ref a:=rx
 exact d_setItem hu I3 g ry rv fun s4 I4 => ⟨σ,H4,I4,q3⟩
end
theorem dk_empty {P : Program} {w : World} {H : Hp} (h : Heap) (hb : sysModules < h.objs.size) : ObjOk P w H (h.push { cls:=.type "dict",data:=.dict #[] }) h.objs.size (.dK []) :=
 ⟨Nat.zero_le _,beq_eq_false_iff_ne.mpr (Ne.symm (Nat.ne_of_lt hb)),[],.nil,Heap.DictOf.new h⟩
def tDNewK : TE:=fun _ H Q => ∀ p,H p = none -> Q (.ref p) (upd H p (.dK []))
section
variable {X : Cx} {pos : Pos}
theorem pe_dnewK : PE X (.Dict [] [] pos) tDNewK:=fun pins s σ H Q I h =>
 wpAny_Dict_empty ⟨.ref s.heap.objs.size,_,I.laid (a:=s.heap.objs.size) (o:=.dK []) (t':=s.toks) (fun _ _ q => Heap.get?_push_of_some _ q) (Nat.le_refl _) (dk_empty s.heap I.big),rfl,h _ (I.hok.fresh (Nat.le_refl _))⟩
end
section
variable {X : Cx} {pins : List (Addr × Obj)} {σ : St} {H : Hp} {s : Shared} {a : Addr} {y d : V} {u r : Value} {o : Option V} {A : Around} {E : Value -> Shared -> Prop}
end
section
variable {X : Cx} {o e f : Expr} {apos cpos : Pos} {td ty tx : TE}
end
section
variable {X : Cx} {pins : List (Addr × Obj)} {σ : St} {H : Hp} {s : Shared} {a : Addr} {kvs : List (Key × V)} {A : Around} {E : Value -> Shared -> Prop}
end
section
variable {X : Cx} {pins : List (Addr × Obj)} {σ : St} {H : Hp} {s : Shared} {a : Addr} {y : V} {u : Value} {A : Around} {E : Value -> Shared -> Prop}
end
end L2
namespace Att
open PySem PySem.W PySem.Calls PyProof.Rows
theorem ints_of_wellAll {P : Params} {h : Heap} : ∀ (ns : List Int) (vs : List Value),WellAll P h vs (ns.map WData.int) -> IntsAre vs ns:=by
 intro ns
 induction ns with
 | nil =>
  intro vs w
  rw [List.map_nil] at w
  cases w
  exact .nil
 | cons n ns ih =>
  intro vs w
  rw [List.map_cons] at w
  cases w with
  | cons a b =>
   cases a
   exact .cons _ _ (ih _ b)
theorem script_of {l : OpenLaw} {n : Nat} (hn : l.most = some n) {P : Params} {h : Heap} {args : List WData} {vals : List Value}
  (hpre : l.row.toRowW.claim.pre args = true) (hwl : WellAll P h vals args) :
  ∃ a vs ns,vals = [Value.ref a] /\ args = [WData.list (ns.map WData.int)] /\ h.get? a = some { cls:=.type "list",data:=.seq vs.toArray } /\ IntsAre vs ns /\ ns.length <= n:=by
 have hsh : WShape.hasAll [] args [.list .int] = true:=(pre_splitW hpre).1
 have hc : l.pre.holds [] { args:=args } = true:=(pre_splitW hpre).2
 obtain ⟨d,r,rfl,h1,h2⟩:=hasAllW_cons hsh
 obtain rfl:=hasAllW_nil h2
 obtain ⟨xs,rfl,h3⟩:=hasW_list h1
 obtain ⟨ns,rfl⟩:=items_int h3
 have hlen : ns.length <= n:=by
  unfold OpenLaw.pre at hc
  have h4 : (WTm.not (.lt (.lit (.int (n : Int))) (.len (.arg 0)))).holds [] { args:=[.list (ns.map .int)] } = true:=by
   have h4:=(holds_andW hc).1
   rw [hn] at h4
   exact h4
  have h5:=condW_of h4 (w_not (w_lt w_lit (w_len_list (w_arg rfl))))
  rw [List.length_map] at h5
  refine Nat.le_of_not_lt fun q => ?_
  have q' : (n : Int) < ((ns.length : Nat) : Int):=by omega
  first
   | (rw [decide_eq_true q'] at h5; exact absurd h5 (by decide))
   | (simp at h5; omega)
 cases hwl with
 | cons w1 w2 =>
  cases w2
  cases w1 with
  | list ho hall => exact ⟨_,_,ns,rfl,rfl,ho,ints_of_wellAll ns _ hall,hlen⟩
theorem post_true (l : OpenLaw) (args : List WData) : l.row.toRowW.claim.post args (.bool true) args = true :=
 postW_of (r:=l.row.toRowW) (X:=(true == true))
  (show WShape.has [] (.bool true) .bool = true by first | rfl | decide | simp [WShape.has,WShape.arms,WShape.armsAll])
  (show (WTm.eq .res (.lit (.bool true))).value [] { args:=args,res:=some (.bool true),after:=args } = some (.bool (true == true)) from w_eq_bool (w_res rfl) w_lit) rfl
theorem attach_call {l : OpenLaw} {n : Nat} {q : Program} {loose : List Str} {XP : (Str -> Option Value) -> Heap -> Prop} {YP : World -> Heap -> Prop} {d : DefRec}
  (hn : l.most = some n) (hdf : d.params.defaults = [])
  (call : ∀ (w : World) (s₀ s₁ : Shared) (mg mb : Str -> Option Value) (fa : Addr) (o : Obj) (pm cd doc : Value) (a : Addr) (vs : List Value) (ns : List Int),
   Ground q loose [] XP w s₀ mg mb s₁.heap -> YP w s₁.heap ->
   s₁.heap.get? fa = some o -> o.data = .func (docDef d.name d.params d.body d.scope pm cd doc) -> s₁.heap.CodeRec cd d.name -> mg d.name = some (.ref fa) ->
   s₁.heap.get? a = some { cls:=.type "list",data:=.seq vs.toArray } -> IntsAre vs ns -> ns.length <= n -> s₁.gens = #[] ->
   codeAny (model l.prog w) callerA (.call (.ref fa) ⟨[.ref a],[]⟩) (fun r s' => r = .ok (.ret (.bool true)) /\ OldK s₁.heap s'.heap /\ s'.os = s₁.os /\ AllBare s'.gens) s₁) :
  WalkO q loose XP YP l.row.toRowW d [] (fun f vs => PySem.call f vs):=by
 intro w s₀ s₁ mg mb G Y fa o pm cd doc dV kV ho hd hcd hD hmg hg args vals as hpre hlay hrd hwl hlo
 obtain rfl : dV = .none:=Dflts.none hD hdf
 obtain rfl : kV = .none:=Dflts.noKw hD
 obtain ⟨a,vs,ns,rfl,rfl,hobj,hints,hlen⟩:=script_of hn hpre hwl
 refine enter_call (codeAny_mono (call w s₀ s₁ mg mb fa o pm cd doc a vs ns G Y ho (fd_plain hd) hcd hmg hobj hints hlen hg) fun r s' hq => ?_)
 obtain ⟨rfl,h2,h3,h4⟩:=hq
 exact ⟨.inl ⟨.bool true,.bool true,[],rfl,fun _ => rfl,.bool true,post_true l _,fun _ => ⟨List.Pairwise.nil,fun _ hm => (nomatch hm)⟩⟩,h2,h3,h4⟩
section
variable {prog : Program} {w : World} {A : Around} {E : Value -> Shared -> Prop} {s : Shared} {K : Frag}
noncomputable def ledger (h : Heap) (L d : Addr) : List (Addr × Obj):=(List.range h.objs.size).filterMap fun a => if a = L \/ a = d then none else (h.get? a).map fun o => (a,o)
end
end Att
namespace L2
open PySem PySem.Spec PyProof.Rows
theorem vals_ints : ∀ {vs : List Value} {ns : List Int},IntsAre vs ns -> Vals (ns.map V.int) vs
 | _,_,.nil => .nil
 | _,_,.cons n t h => .cons ⟨t,rfl⟩ (vals_ints h)
def Only (H : Hp) : Prop:=∀ b,H b = none \/ ∃ o xs,H b = some (.frz o (.lst xs))
theorem law_call {P : Program} {w : World} {K : PySem.W.Frag} {mg mb : Str -> Option Value} {CX : CXT} {k : Nat} {fa a : Addr} {fd : FuncData} {x : Str} {sp : Sp} {s₁ : Shared} {vs : List Value} {ns : List Int}
  (KX : K.In s₁.heap) (hns : s₁.heap.Ns mainGlobals mg) (hb : s₁.heap.Ns builtinsNs mb) (hbb : ∀ x : Str,x ≠ "__name__" -> mb x = bootBuiltins x) (hlim : s₁.heap.NoLimit) (hg : s₁.gens = #[])
  (ha : s₁.heap.get? a = some { cls:=.type "list",data:=.seq vs.toArray }) (hi : IntsAre vs ns) (hl : ns.length <= sizeLine) (hr : Room k callerA)
  (F : ∀ base : Heap,K.In base -> base.Ns mainGlobals mg -> FnOk P w K mg base CX k fa fd [x] sp) (hbind : ∀ (s : Shared) (u : Value),BindsTo s fd ⟨[u],[]⟩ [(x,u)])
  (hsp : ∀ H : Hp,Only H -> SqL K H a (ns.map V.int) -> sp [.ref a] H (fun v _ => v = .bl true) fun _ _ _ => False)
  (hCX : ∀ H e s',CX [] H s₁ (fun _ _ _ => False) e s' -> False) :
  codeAny (model P w) callerA (.call (.ref fa) ⟨[.ref a],[]⟩) (fun r s' => r = .ok (.ret (.bool true)) /\ OldK s₁.heap s'.heap /\ s'.os = s₁.os /\ AllBare s'.gens) s₁:=by
 have rv:=vals_ints hi
 have lenV:=hi.length
 -- from an abstract heap in which nothing but the script may be tracked
 have core : ∀ H : Hp,Only H -> SqL K H a (ns.map V.int) -> HOk P w H s₁.heap -> (∀ b,H b ≠ none -> b = a) -> (H a ≠ none -> K.lookup a = none) ->
   codeAny (model P w) callerA (.call (.ref fa) ⟨[.ref a],[]⟩) (fun r s' => r = .ok (.ret (.bool true)) /\ OldK s₁.heap s'.heap /\ s'.os = s₁.os /\ AllBare s'.gens) s₁:=by
  intro H hO hS hok hA hK
  have base_of : ∀ {b : Addr} {o : Obj},s₁.heap.get? b = some o -> H b = none -> (hidT s₁.heap H).get? b = some o:=fun e n => hidT_get e n
  have noA : ∀ {b : Addr} {o : Obj} {es : Array DictEntry} {ep : Nat},s₁.heap.get? b = some o -> o.data = .dict es ep -> H b = none:=fun {b o es ep} e d => by
   cases q : H b with
   | none => rfl
   | some u =>
    have e' : b = a:=hA b (by rw [q]; simp)
    subst e'
    rw [ha] at e; cases e
    have d' : Data.seq vs.toArray _ = Data.dict es ep:=d
    cases d'
  have nsK : ∀ {b : Addr} {m : Str -> Option Value},s₁.heap.Ns b m -> (hidT s₁.heap H).Ns b m:=fun {b m} ⟨o,es,ep,e,d,r⟩ => ⟨o,es,ep,base_of e (noA e d),d,r⟩
  have hKb : K.In (hidT s₁.heap H):=fun b o e => base_of (KX b o e) (by
   cases q : H b with
   | none => rfl
   | some u =>
    have e' : b = a:=hA b (by rw [q]; simp)
    subst e'
    rw [hK (by rw [q]; simp)] at e; cases e)
  have hM : Mod K mg (hidT s₁.heap H):=⟨hKb,nsK hns,⟨mb,nsK hb,hbb⟩,let ⟨mc,h1,h2⟩:=hlim; ⟨mc,nsK h1,h2⟩⟩
  have e0 : Env0 P w K mg (hidT s₁.heap H) callerA [] s₁ H:=⟨rfl,hM,fun b o e => of_hidT e,Nat.le_of_eq (hidT_size _ _),trivial,fun b hb => absurd (show b ∈ ([] : List Addr) from hb) (by simp),hok,.of_eq hg⟩
  refine codeAny_mono ((F _ hKb (nsK hns)).run callerA [] s₁ H ⟨[.ref a],[]⟩ [.ref a] [.ref a] _ _ hr e0 (hbind s₁ (.ref a)) (.cons rfl .nil) (hsp H hO hS)) fun r s' h => ?_
  cases r with
  | error e => exact (hCX H e s' h).elim
  | ok fl =>
   cases fl with
   | next => exact False.elim h
   | brk => exact False.elim h
   | cont => exact False.elim h
   | ret u =>
    obtain ⟨v,H',os,bare,un,hok',r',q⟩:=h
    have q' : v = .bl true:=q
    subst q'
    obtain rfl : u = Value.bool true:=r'
    refine ⟨rfl,OldK.of_keep fun b o e => ?_,os,bare⟩
    cases q : H b with
    | none => exact un.keep b o e q (by intro z; exact absurd (show b ∈ ([] : List Addr) from z) (by simp)) (by simp)
    | some u =>
     rcases hO b with z | ⟨ob,xs,z⟩
     ·
      rw [q] at z; cases z
     ·
      have z2:=un.frzs b ob _ z
      obtain ⟨e1,_⟩:=hok b _ z
      obtain ⟨e2,_⟩:=hok' b _ z2
      rw [e] at e1; cases e1
      exact e2
 cases hk : K.lookup a with
 | some o =>
  -- the script is one of the module's own objects
  have e:=KX a o hk
  rw [ha] at e
  cases e
  refine core (fun _ => none) (fun _ => .inl rfl) (.inr ⟨_,vs.toArray,_,hk,rfl,rfl,rfl,by rw [List.size_toArray,lenV]; exact hl,by simpa using rv⟩) (fun b u z => by have z' : (none : Option HO) = some u:=z; cases z') (fun b z => absurd rfl z) fun z => absurd rfl z
 | none =>
  refine core (fun b => if b = a then some (.frz { cls:=.type "list",data:=.seq vs.toArray } (.lst (ns.map V.int))) else none) (fun b => ?_) (.inl (.inr ⟨{ cls:=.type "list",data:=.seq vs.toArray },if_pos rfl⟩)) (fun b u z => ?_) (fun b z => ?_) fun _ => hk
  ·
   by_cases hb : b = a
   ·
    exact .inr ⟨_,_,if_pos hb⟩
   ·
    exact .inl (if_neg hb)
  ·
   by_cases hb : b = a
   ·
    have z':=(if_pos hb).symm.trans z
    cases z'
    subst hb
    exact ⟨ha,by rw [List.length_map]; exact hl,vs,_,rv,ha⟩
   ·
    have z':=(if_neg hb).symm.trans z
    cases z'
  ·
   by_cases hb : b = a
   ·
    exact hb
   ·
    exact absurd (if_neg hb) z
end L2
namespace L2
open PySem PySem.Spec PyProof.Rows
noncomputable abbrev KOf {K : PySem.W.Frag} {h : Heap} (_ : K.In h) : PySem.W.Frag:=K
theorem walk_of {l : PySem.W.OpenLaw} {n k : Nat} {q : Program} {loose : List Str} {XP : (Str -> Option Value) -> Heap -> Prop} {YP : World -> Heap -> Prop} {d : DefRec} {K : Params -> PySem.W.Frag} {CX : World -> CXT} {sp : World -> Sp} {x : Str}
  (hn : l.most = some n) (hn2 : n <= sizeLine) (hdf : d.params.defaults = []) (hr : Room k callerA)
  (hY : ∀ (w : World) (h : Heap),YP w h -> (K w.params).In h)
  (F : ∀ (w : World) (mg : Str -> Option Value) (fa : Addr) (h : Heap),(K w.params).In h -> h.Ns mainGlobals mg -> mg d.name = some (.ref fa) ->
   ∃ fd : FuncData,(∀ (s : Shared) (u : Value),BindsTo s fd ⟨[u],[]⟩ [(x,u)]) /\
    ∀ base : Heap,(K w.params).In base -> base.Ns mainGlobals mg -> FnOk l.prog w (K w.params) mg base (CX w) k fa fd [x] (sp w))
  (hsp : ∀ (w : World) (H : Hp) (a : Addr) (ns : List Int),ns.length <= n -> Only H -> SqL (K w.params) H a (ns.map V.int) -> sp w [.ref a] H (fun v _ => v = .bl true) fun _ _ _ => False)
  (hCX : ∀ (w : World) (H : Hp) (s : Shared) (e : Value) (s' : Shared),CX w [] H s (fun _ _ _ => False) e s' -> False) :
  PySem.W.WalkO q loose XP YP l.row.toRowW d [] (fun f vs => PySem.call f vs):=by
 refine Att.attach_call hn hdf fun w s₀ s₁ mg mb fa o pm cd doc a vs ns G Y ho hd hcd hmg hobj hints hlen hg => ?_
 have KX:=hY w _ Y
 obtain ⟨fd,hb,hF⟩:=F w mg fa _ KX G.T.g hmg
 exact law_call KX G.T.g G.T.b G.T.builtins G.T.nolimit hg hobj hints (Nat.le_trans hlen hn2) hr hF hb (fun H hO hS => hsp w H a ns hlen hO hS) fun H e s' => hCX w H s₁ e s'
end L2
/- THE LAST THEOREM (shape; LID,My.* are yours):
  My.Adr: a structure of the addresses that your layer names (classes,functions); My.Txt K t: a structure (Prop) of the equations over K;
  My.txt_mk : {K} {implicit addresses ..} (e1 : nsIn K mainGlobals "law" = some (some (.ref f))) (e2 : K.lookup f = some ⟨oc,od,.func (fnOf "law" "law" params body scope dV kV doc pm an cdv ct),sl⟩) (e3 : codeIn K cdv "law" = true) .. : ∃ t,My.Txt K t
set_option maxRecDepth 100000 in
set_option maxHeartbeats 0 in
theorem PySem.Challenge.cw_LID_holds : PySem.Challenge.rw_LID.Holds := by
 w_on; o_law; k_head; (case hw => w_witness2)
 k_fill
 refine L2.walk_of (l:=PySem.Challenge.rw_LID) (n:=63) (k:=40) (x:="script") (CX:=fun w => ..) (sp:=fun _ => My.sp_law) rfl (by decide) rfl ⟨rfl,by decide,by decide⟩ (fun w h Y => PySem.W.kIn_of Y) ?F ?S ?C
 case F =>
  intro w mg fa h KX G hmg
  have T : ∃ t,My.Txt (L2.KOf KX) t:=by
   dsimp only [L2.KOf]                          -- K must stand as «<heap const> w.params» for k_is
   refine' My.txt_mk ?e1 ?e2 ?e3 ..
   (case e1 => PySem.W.k_is)                    -- in the order: a name -> its address -> its object -> its parts
   (case e2 => PySem.W.k_is)
   ..
  obtain ⟨t,T⟩:=T
  have e0:=hmg.symm.trans (PySem.W.mg_of KX G T.law)
  cases e0                                       -- fa is the law's own address
  exact ⟨_,fun s u => .of_eq rfl,fun base kb nb => My.law_fn T kb nb⟩     -- if «.of_eq rfl» comes too early: refine' ⟨_,?b,fun base kb nb => My.law_fn T kb nb⟩; exact fun s u => .of_eq rfl
 case S => exact fun w H a ns hl hO hS => ..
 case C => exact ..
(the tactic k_is has no namespace: write k_is) -/
namespace L2
open PySem PySem.Spec PyProof.Rows
noncomputable def defArgs (s : Stmt) : Arguments:=match s with
 | .FunctionDef _ a _ _ _ _ _ _ _ _ => a
 | _ => { posonlyargs:=[],args:=[],vararg:=none,kwonlyargs:=[],kw_defaults:=[],kwarg:=none,defaults:=[] }
noncomputable def defBody (s : Stmt) : List Stmt:=match s with
 | .FunctionDef _ _ b _ _ _ _ _ _ _ => b
 | _ => []
noncomputable def defScope (s : Stmt) : Scope:=match s with
 | .FunctionDef _ _ _ _ _ _ sc _ _ _ => sc
 | _ => { kind:=.function,names:=[],isGenerator:=false,isCoroutine:=false }
abbrev CX0 : CXT:=fun _ _ _ _ _ _ => False
abbrev E0 : XK:=fun _ _ _ => False
theorem pass0 {X : Cx} : Passes CX0 X E0:=fun _ _ _ _ _ _ _ h => h.elim
structure Fun (K : PySem.W.Frag) (x qual : Str) (st : Stmt) (f : Addr) (fd : FuncData) : Prop where
 ex : ∃ (oc : Value) (od : Option Addr) (kV doc pm : Value) (an : Option Addr) (cdv ct : Value) (osl : Array (Option Value)),
  fd = PySem.W.fnOf x qual (defArgs st) (defBody st) (defScope st) .none kV doc pm an cdv ct /\ K.lookup f = some ⟨oc,od,.func fd,osl⟩ /\ PySem.W.codeIn K cdv qual = true
 kp : PySem.W.keepIn K (.ref f) = true
section
variable {P : Program} {w : World} {K : PySem.W.Frag} {mg : Str -> Option Value} {base : Heap}
theorem Fun.ok {x qual : Str} {st : Stmt} {f : Addr} {fd : FuncData} {N ps : List Str} {k : Nat} {sp : Sp} (F : Fun K x qual st f fd) (S : FnScope N ps (defScope st)) (len : ∀ vs H Q E,sp vs H Q E -> vs.length = ps.length)
  (hbody : ∀ (cdv : Value) (A : Around) (outer : List Env) (s : Shared) (H : Hp) (vs : List V) (Q : VK) (E : XK),Room k (A.deeper (envOfC qual (defScope st) s.heap.objs.size f cdv)) -> sp vs H Q E ->
   ∃ t,PSs (cxOf CX0 P w K mg base N qual (defScope st) f cdv A outer s H E).nox (defBody st) t /\ t { nx:=fun _ H' => Q .non H',rt:=Q } (start N vs) H) : FnOk P w K mg base CX0 (k + 1) f fd ps sp:=by
 obtain ⟨oc,od,kV,doc,pm,an,cdv,ct,osl,rfl,lk,hcd⟩:=F.ex
 refine fn_of lk hcd S len fun A outer s H vs Q E hr hsp => ?_
 obtain ⟨t,h,q⟩:=hbody cdv A outer s H vs Q E hr hsp
 exact ⟨t,h.nox,q⟩
theorem Fun.binds {x qual : Str} {st : Stmt} {f : Addr} {fd : FuncData} {ps : List Str} (F : Fun K x qual st f fd)
  (h : ∀ (kV doc pm : Value) (an : Option Addr) (cdv ct : Value) (us : List Value),us.length = ps.length -> bindArgs (PySem.W.fnOf x qual (defArgs st) (defBody st) (defScope st) .none kV doc pm an cdv ct) ⟨us,[]⟩ = pure (ps.zip us)) : Binds K fd ps []:=by
 obtain ⟨oc,od,kV,doc,pm,an,cdv,ct,osl,rfl,lk,hcd⟩:=F.ex
 exact .all (h kV doc pm an cdv ct)
theorem fun_mk {x qual : Str} {st : Stmt} {f : Addr} {oc : Value} {od an : Option Addr} {osl : Array (Option Value)} {kV doc pm cdv ct : Value} (l : K.lookup f = some ⟨oc,od,.func (PySem.W.fnOf x qual (defArgs st) (defBody st) (defScope st) .none kV doc pm an cdv ct),osl⟩)
  (c : PySem.W.codeIn K cdv qual = true) (k : PySem.W.keepIn K (.ref f) = true) : Fun K x qual st f (PySem.W.fnOf x qual (defArgs st) (defBody st) (defScope st) .none kV doc pm an cdv ct):=⟨⟨oc,od,kV,doc,pm,an,cdv,ct,osl,rfl,l,c⟩,k⟩
end
section
variable {X : Cx}
theorem pv (i : Nat) {x : Str} {pos : Pos} (hN : X.N[i]? = some x:=by rfl) (hv : Vis X.env.scope x:=by first | exact Or.inl rfl | exact Or.inr (Or.inl rfl) | exact Or.inr (Or.inr rfl)) (hd : (x == ("__debug__" : Str)) = false:=by decide)
  (hcd : (x == ("__classdict__" : Str)) = false:=by decide) : PE X (.Name x pos) (tVar i):=pe_var hN hv hd hcd
end
theorem iteF {A B : Prop} (h : B) : if false = true then A else B:=by
 rw [if_neg Bool.false_ne_true]
 exact h
theorem iteT {A B : Prop} (h : A) : if true = true then A else B:=by
 rw [if_pos rfl]
 exact h
section
variable {κ : Type} [DecidableEq κ]
theorem nd_snoc : ∀ {l : List κ} {k : κ},l.Nodup -> ¬ k ∈ l -> (l ++ [k]).Nodup
 | [],k,_,_ => by simp
 | a :: r,k,h,hk => by
  obtain ⟨h1,h2⟩:=List.nodup_cons.mp h
  show (a :: (r ++ [k])).Nodup
  refine List.nodup_cons.mpr ⟨fun m => ?_,nd_snoc h2 fun m => hk (List.mem_cons.mpr (Or.inr m))⟩
  rcases List.mem_append.mp m with q | q
  ·
   exact h1 q
  ·
   exact hk (List.mem_cons.mpr (Or.inl (List.mem_singleton.mp q).symm))
end
end L2
set_option maxHeartbeats 1000000
namespace L2
open PySem PySem.Spec PyProof.Rows
theorem lookup_told {F : Str × NameKind -> Str × NameKind} (hF : ∀ p,(F p).1 = p.1) {x : Str} {k : NameKind} : ∀ {names : List (Str × NameKind)},names.lookup x = some k -> (names.map F).lookup x = some (F (x,k)).2
 | [],h => by cases h
 | (m,q) :: r,h => by
  have hm:=hF (m,q)
  rw [List.map_cons,show F (m,q) = (m,(F (m,q)).2) from Prod.ext hm rfl]
  by_cases e : x = m
  ·
   subst e
   rw [List.lookup_cons_self] at h ⊢
   cases h
   rfl
  ·
   have eb : (x == m) = false:=beq_eq_false_iff_ne.mpr e
   simp only [List.lookup,eb] at h ⊢
   exact lookup_told hF h
theorem lookup_relabel_free {env : Env} {x : Str} {names : List (Str × NameKind)} (h : names.lookup x = some .free) :
  (names.map fun (n,k) => if (k == NameKind.free && env.scope.kind == .function && env.kindOf n == some .cell) then (n,NameKind.cell) else (n,k)).lookup x = some .cell \/
  (names.map fun (n,k) => if (k == NameKind.free && env.scope.kind == .function && env.kindOf n == some .cell) then (n,NameKind.cell) else (n,k)).lookup x = some .free:=by
 rw [lookup_told (F:=fun (n,k) => if (k == NameKind.free && env.scope.kind == .function && env.kindOf n == some .cell) then (n,NameKind.cell) else (n,k)) (fun p => by dsimp only; split <;> rfl) h]
 dsimp only
 split
 ·
  exact .inl rfl
 ·
  exact .inr rfl
theorem closure_ok {scope : Scope} {env : Env} (h : ∀ y ∈ scope.names,y.2 = .free -> ∃ c,env.cells.lookup y.1 = some c) :
  ∃ cl,closureFor scope env = pure cl /\ (∀ x c,cl.lookup x = some c -> env.cells.lookup x = some c) /\ ∀ y ∈ scope.names,y.2 = .free -> ∃ c,cl.lookup y.1 = some c:=by
 have key : ∀ (names : List (Str × NameKind)) (cs : List (Str × Addr)),(∀ y ∈ names,y.2 = .free -> ∃ c,env.cells.lookup y.1 = some c) -> (∀ x c,cs.lookup x = some c -> env.cells.lookup x = some c) ->
   ∃ cl : List (Str × Addr),(forIn names cs (fun (x : Str × NameKind) (r : List (Str × Addr)) => (do
    if x.2 == .free then do
     let a <- cellOf env x.1
     pure (ForInStep.yield ((x.1,a) :: r))
    else pure (ForInStep.yield r) : Sem (ForInStep (List (Str × Addr))))) : Sem (List (Str × Addr))) = pure cl /\ (∀ x c,cl.lookup x = some c -> env.cells.lookup x = some c) /\
    (∀ x c,cs.lookup x = some c -> ∃ c',cl.lookup x = some c') /\ ∀ y ∈ names,y.2 = .free -> ∃ c,cl.lookup y.1 = some c:=by
  intro names
  induction names with
  | nil => intro cs _ hc; exact ⟨cs,rfl,hc,fun x c e => ⟨c,e⟩,fun y hy => nomatch hy⟩
  | cons y r ih =>
   intro cs hn hc
   obtain ⟨n,k⟩:=y
   by_cases hk : k = .free
   ·
    subst hk
    obtain ⟨c,ec⟩:=hn (n,.free) List.mem_cons_self rfl
    have hcell : cellOf env n = pure c:=by unfold cellOf; rw [ec]
    obtain ⟨cl,e,h1,h2,h3⟩:=ih ((n,c) :: cs) (fun y hy => hn y (List.mem_cons_of_mem _ hy)) (fun x c' q => by
     simp only [List.lookup_cons] at q
     cases hx : x == n with
     | true => rw [hx] at q; cases q; rw [eq_of_beq hx]; exact ec
     | false => rw [hx] at q; exact hc x c' q)
    refine ⟨cl,?_,h1,fun x c' q => ?_,fun y hy hf => ?_⟩
    ·
     rw [List.forIn_cons]
     show ((if (NameKind.free == NameKind.free) = true then (cellOf env n >>= fun a => pure (ForInStep.yield ((n,a) :: cs))) else pure (ForInStep.yield cs)) >>= _) = _
     rw [hcell]
     exact e
    ·
     cases hx : x == n with
     | true => exact h2 x c (by simp only [List.lookup_cons,hx])
     | false => exact h2 x c' (by simp only [List.lookup_cons,hx]; exact q)
    ·
     rcases List.mem_cons.mp hy with rfl | hy
     ·
      exact h2 n c (by simp [List.lookup_cons])
     ·
      exact h3 y hy hf
   ·
    obtain ⟨cl,e,h1,h2,h3⟩:=ih cs (fun y hy => hn y (List.mem_cons_of_mem _ hy)) hc
    have hb : (k == NameKind.free) = false:=by simpa using hk
    refine ⟨cl,?_,h1,h2,fun y hy hf => ?_⟩
    ·
     rw [List.forIn_cons]
     show ((if (k == NameKind.free) = true then (cellOf env n >>= fun a => pure (ForInStep.yield ((n,a) :: cs))) else pure (ForInStep.yield cs)) >>= _) = _
     rw [hb]
     exact e
    ·
     rcases List.mem_cons.mp hy with rfl | hy
     ·
      exact absurd hf hk
     ·
      exact h3 y hy hf
 obtain ⟨cl,e,h1,_,h3⟩:=key scope.names [] h (fun x c q => by simp at q)
 refine ⟨cl,?_,h1,h3⟩
 unfold closureFor
 exact congrArg (fun m => m >>= fun r => pure r) e
noncomputable def cxComp (X : Cx) (N' : List Str) (scope : Scope) (cl : List (Str × Addr)) (pins : List (Addr × Obj)) (s : Shared) (H : Hp) (C : Addr) (fp : List Addr) : Cx where
 prog:=X.prog
 w:=X.w
 K:=X.K
 mg:=X.mg
 base:=X.base
 A:=X.A
 N:=N'
 s₀:=s
 H₀:=H
 env:=compEnvC scope cl C X.env
 outer:=X.stack
 stack:=X.stack
 ex:=fp
 fn:=fun x => scope.names.lookup x == some .cell
 calm:=X.calm
 pn:=X.pn ++ pins
 xe:=fun _ _ => False
def PIf (X : Cx) (ifs : List Expr) (t : TT) : Prop :=
 ∀ (pins : List (Addr × Obj)) (s : Shared) (σ : St) (H : Hp) (Q : Bool -> Hp -> Prop),Inv X pins σ H s -> t σ H Q ->
  wpAny (model X.prog X.w) X.A (forIn ifs true fun c r => if r = true then do let ok <- isTrue c X.env (eval c X.env); pure (ForInStep.yield ok) else pure (ForInStep.yield r)) (TP X pins σ Q) X.xe s
def tYes : TT:=fun _ H Q => Q true H
theorem pif_nil {X : Cx} : PIf X [] tYes:=fun _ _ _ H _ I h => wpAny_tests_nil ⟨H,I,h⟩
theorem pif_one {X : Cx} {c : Expr} {t : TT} (h : PT X c t) : PIf X [c] t:=fun pins s σ H Q I hq => wpAny_tests_one (h pins s σ H Q I hq)
section
variable {prog : Program} {w : World} {A : Around} {R : Result -> Shared -> Prop} {s : Shared}
theorem compLoop_gen {elt target iter : Expr} {ifs : List Expr} {scope : Scope} {pos : Pos} {it acc : Value} {env : Env} (I : Nat -> Shared -> Prop)
  (turn : ∀ n s,I n s -> wpAny (model prog w) A (pyNext it) (fun r s₁ => match r with | .none => R (.ok .next) s₁ | .some v => wpAny (model prog w) A (letOwnedTupleGo target it v) (fun _ s₁' => wpAny (model prog w) A (assign target env v) (fun _ s₂ => wpAny (model prog w) A (forIn ifs true fun c r => if r = true then do let ok <- isTrue c env (eval c env); pure (ForInStep.yield ok) else pure (ForInStep.yield r)) (fun ok s₃ => if ok = true then wpAny (model prog w) A (eval elt env) (fun x s₄ => wpAny (model prog w) A (call (.builtin "list.append") [acc,x]) (fun _ s₅ => ∃ m,m < n /\ I m s₅) (fun _ _ => False) s₄) (fun _ _ => False) s₃ else ∃ m,m < n /\ I m s₃) (fun _ _ => False) s₂) (fun _ _ => False) s₁') (fun _ _ => False) s₁) (fun _ _ => False) s)
  (n : Nat) (h : I n s) : codeAny (model prog w) A (.compLoop (.ListComp elt [⟨target,iter,ifs,0⟩] scope pos) 0 it acc env) R s:=by
 refine codeAny_loop rfl I (fun j s₀ hI => ?_) n h; show wpAny _ A ((compTurn (.ListComp elt [⟨target,iter,ifs,0⟩] scope pos) 0 it acc env).onRaise (fun x => do noteFrame x env; theTreesLotGoes x)) _ _ s₀
 refine wpAny_noted ?_
 rw [compTurn_list]
 refine wpAny_bind (wpAny_standAt (wpAny_bind (wpAny_mono (turn j s₀ hI) (fun r s₁ h₁ => ?_) fun _ _ h' => h'.elim)))
 cases r with
 | none => exact wpAny_pure h₁
 | some v =>
  refine wpAny_bind (wpAny_mono h₁ (fun _ s₁' h₁' => ?_) fun _ _ h' => h'.elim)
  refine wpAny_bind (wpAny_mono h₁' (fun _ s₂ h₂ => wpAny_bind (wpAny_mono h₂ (fun ok s₃ h₃ => ?_) fun _ _ h' => h'.elim)) fun _ _ h' => h'.elim)
  cases ok with
  | false => exact (wpAny_pure (And.intro rfl h₃))
  | true =>
   exact wpAny_bind (wpAny_bind (wpAny_mono h₃ (fun x s₄ h₄ => wpAny_bind (wpAny_mono h₄ (fun _ s₅ h₅ => wpAny_pure (wpAny_pure ⟨rfl,h₅⟩)) fun _ _ h' => h'.elim)) fun _ _ h' => h'.elim))
end
def CompW (J : It) (g : TG) (tt : TT) (te : TE) (fin : List V -> Hp -> Prop) (σ₀ : St) (H₁ : Hp) : Prop :=
 ∃ W : Nat -> Nat -> List V -> St -> Hp -> Prop,(∃ m,W 0 m [] σ₀ H₁) /\ ∀ i m ys σ H,W i m ys σ H ->
  (J.stop i H /\ ys.length <= sizeLine /\ fin ys H) \/
  (J.go i H /\ ∀ x H',J.yld i H x H' -> g x σ H' fun σ2 H2 => tt σ2 H2 fun b H3 => if b = true then te σ2 H3 fun y H4 => ys.length < sizeLine /\ ∃ m',m' < m /\ W (i + 1) m' (ys ++ [y]) σ2 H4 else ∃ m',m' < m /\ W (i + 1) m' ys σ2 H3)
noncomputable def capS (nt : Nat) (cap : List Nat) (σ : St) : St:=List.replicate nt none ++ cap.map fun j => (σ[j]?).getD none
structure CompSc (X : Cx) (N' : List Str) (nt : Nat) (cap : List Nat) (scope : Scope) : Prop where
 kind : scope.kind = .function
 cells : ∀ y ∈ scope.names,y.2 = .cell -> scope.names.lookup y.1 = some .cell
 names : ∀ x ∈ scope.names,x.2 = .local -> scope.names.lookup x.1 = some .local
 free : ∀ y ∈ scope.names,y.2 = .free -> X.env.kindOf y.1 = some .cell \/ X.env.kindOf y.1 = some .free
 len : N'.length = nt + cap.length
 caps : ∀ (j : Nat) (x : Str),N'[nt + j]? = some x -> ∃ i,cap[j]? = some i /\ X.N[i]? = some x /\ scope.names.lookup x = some .free
theorem list_obj_append {l : Addr} {its : List Value} {n : Nat} {u : Value} {P : Program} {w : World} {A : Around} {E : Value -> Shared -> Prop} {s : Shared} {Q : Value -> Shared -> Prop}
  (e : s.heap.get? l = some { cls:=.type "list",data:=.seq its.toArray n }) (hz : its.length < sizeLine)
  (h : ∀ h' n',h'.get? l = some { cls:=.type "list",data:=.seq (its ++ [u]).toArray n' } -> (∀ b o,b ≠ l -> s.heap.get? b = some o -> h'.get? b = some o) -> Q .none { s with heap:=h' }) :
  wpAny (model P w) A (call (.builtin "list.append") [.ref l,u]) Q E s:=by
 refine call_meets F.slot_list_append ⟨_,e,rfl⟩ F.entry_list_append (F.args_list_append_2 _ _) (PySem.list_append l its.toArray n u (by rw [List.size_toArray]; omega)) ⟨e,?_⟩
 have q:=PySem.IsL.update e (·.push u)
 rw [List.push_toArray] at q
 exact h _ _ q (fun b o hb hu => (Heap.get?_update_other s.heap _ (Ne.symm hb)).trans hu)
theorem cellsFrom_app : ∀ (names : List (Str × NameKind)) (n : Nat) (acc : List (Str × Addr)),cellsFrom n names acc = cellsFrom n names [] ++ acc
 | [],_,_ => rfl
 | (x,k) :: r,n,acc => by
  unfold cellsFrom
  split
  ·
   rw [cellsFrom_app r (n + 1) ((x,n) :: acc),cellsFrom_app r (n + 1) [(x,n)],List.append_assoc]
   rfl
  ·
   exact cellsFrom_app r n acc
theorem lookup_app {α : Type} (x : Str) : ∀ (l m : List (Str × α)),(l ++ m).lookup x = (l.lookup x).or (m.lookup x)
 | [],_ => rfl
 | (y,v) :: r,m => by
  rw [List.cons_append,List.lookup_cons,List.lookup_cons,lookup_app x r m]
  cases x == y <;> rfl
theorem cells_either {names : List (Str × NameKind)} {n : Nat} {cl : List (Str × Addr)} {x : Str} {c : Addr} (h : (cellsFrom n names cl).lookup x = some c) : (cellsFrom n names []).lookup x = some c \/ ((cellsFrom n names []).lookup x = none /\ cl.lookup x = some c):=by
 rw [cellsFrom_app,lookup_app] at h
 cases e : (cellsFrom n names []).lookup x with
 | some d => rw [e] at h; exact .inl h
 | none => rw [e] at h; exact .inr ⟨rfl,h⟩
theorem cells_name {x : Str} {c : Addr} : ∀ {names : List (Str × NameKind)} {n : Nat} {acc : List (Str × Addr)},(x,c) ∈ cellsFrom n names acc -> (x,NameKind.cell) ∈ names \/ (x,c) ∈ acc
 | [],_,_,h => .inr h
 | (y,k) :: r,n,acc,h => by
  unfold cellsFrom at h
  split at h
  ·
   rename_i hk
   rcases cells_name h with q | q
   ·
    exact .inl (List.mem_cons_of_mem _ q)
   ·
    rcases List.mem_cons.mp q with q | q
    ·
     cases q
     have : k = .cell:=by simpa using hk
     subst this
     exact .inl List.mem_cons_self
    ·
     exact .inr q
  ·
   rcases cells_name h with q | q
   ·
    exact .inl (List.mem_cons_of_mem _ q)
   ·
    exact .inr q
theorem newEnvC {M : Model} {A : Around} {E : Value -> Shared -> Prop} {s : Shared} {scope : Scope} {globals : Addr} {closure : List (Str × Addr)} {qual : Str} {env : Env} {Q : Env -> Shared -> Prop}
  (hQ : Q (newEnv scope s.heap.objs.size globals (cellsFrom (s.heap.objs.size + 1) scope.names closure) qual none .none (some env) builtinsNs) { s with heap:=pushCells (s.heap.push { cls:=.type "dict",data:=.dict #[] }) scope.names }) :
  wpAny M A (newFunctionEnv scope globals closure [] qual none .none (some env)) Q E s:=by
 simp only [newFunctionEnv,Option.isSome_some,if_true]
 refine wpAny_bind (wpAny_alloc ?_)
 refine wpAny_bind (wpAny_layCells _ (fun name kind cells => by cases hkc : kind == NameKind.cell <;> simp [hkc]) _ _ _ _ ?_)
 rw [show ({ s with heap:=s.heap.push { cls:=.type "dict",data:=.dict #[] } } : Shared).heap.objs.size = s.heap.objs.size + 1 from Heap.size_push ..]
 refine wpAny_bind ?_
 rw [List.forIn_nil]
 exact wpAny_pure (wpAny_pure hQ)
theorem inv_comp {X : Cx} {pins : List (Addr × Obj)} {σ : St} {H : Hp} {s : Shared} {N' : List Str} {nt : Nat} {cap : List Nat} {scope : Scope} {cl : List (Str × Addr)} {fp : List Addr} {h' : Heap} {C : Addr} {tk : Nat} {pl : List (Addr × Obj)}
  (S : CompSc X N' nt cap scope) (I : Inv X pins σ H s) (hcl : ∀ x c,cl.lookup x = some c -> X.env.cells.lookup x = some c) (hclh : ∀ y ∈ scope.names,y.2 = .free -> ∃ c,cl.lookup y.1 = some c)
  (hf : ∀ b ∈ fp,FpOk X pins H b) (hfl : ∀ b ∈ fp,b < s.heap.objs.size) (hC : s.heap.objs.size < C) (hn : h'.Ns C fun _ => none) (hk : ∀ b o,s.heap.get? b = some o -> h'.get? b = some o)
  (hp : ∀ p ∈ pl,h'.get? p.1 = some p.2 /\ s.heap.objs.size = p.1 /\ ∀ v,p.2.data ≠ .cell v) (hcc : CellsOk h' (C + 1) (cellsFrom (C + 1) scope.names [])) :
  Inv (cxComp X N' scope (cellsFrom (C + 1) scope.names cl) pins s H C fp) pl (capS nt cap σ) H { s with heap:=h',toks:=tk }:=by
 have two : ∀ x c,(cellsFrom (C + 1) scope.names cl).lookup x = some c -> (C + 1 <= c /\ (cellsFrom (C + 1) scope.names []).lookup x = some c) \/ X.env.cells.lookup x = some c:=fun x c e => by
  rcases cells_either e with q | q
  ·
   exact .inl ⟨(hcc.empty x c (PySem.mem_of_lookup q)).2,q⟩
  ·
   exact .inr (hcl x c q.2)
 have low : ∀ x c,X.env.cells.lookup x = some c -> c < s.heap.objs.size:=fun x c e => by
  obtain ⟨v,q⟩:=I.cell x c e
  exact q.lt
 have hok : (cxComp X N' scope (cellsFrom (C + 1) scope.names cl) pins s H C fp).Ok:=by
  refine ⟨I.ok.mod,S.kind,I.ok.glob,I.ok.blt,Nat.le_of_lt hC,fun x y c e1 e2 => ?_,fun x hx => ?_,fun x c z e => ?_,I.ok.hd,I.ok.frames,.inl rfl,fun b hb => ?_,I.bs,Nat.le_trans I.ok.bsz I.sz,fun b o e hb => ?_,fun b hb z => ?_,I.stack,I.stkFree⟩
  ·
   rcases two x c e1 with ⟨q1,p1⟩ | q1
   ·
    rcases two y c e2 with ⟨q2,p2⟩ | q2
    ·
     exact name_of_addr hcc.apart (PySem.mem_of_lookup p1) (PySem.mem_of_lookup p2)
    ·
     exact absurd (Nat.lt_of_lt_of_le (Nat.lt_succ_of_lt (Nat.lt_trans (low y c q2) hC)) q1) (Nat.lt_irrefl _)
   ·
    rcases two y c e2 with ⟨q2,p2⟩ | q2
    ·
     exact absurd (Nat.lt_of_lt_of_le (Nat.lt_succ_of_lt (Nat.lt_trans (low x c q1) hC)) q2) (Nat.lt_irrefl _)
    ·
     exact I.ok.inj x y c q1 q2
  ·
   have hx' : (relabel scope X.env).names.lookup x = some .cell \/ (relabel scope X.env).names.lookup x = some .free:=hx
   have hm : ∃ k,(x,k) ∈ (relabel scope X.env).names /\ (k = .cell \/ k = .free):=by
    rcases hx' with z | z
    ·
     exact ⟨_,PySem.mem_of_lookup z,.inl rfl⟩
    ·
     exact ⟨_,PySem.mem_of_lookup z,.inr rfl⟩
   obtain ⟨k,hm,hk⟩:=hm
   obtain ⟨⟨n,k0⟩,hm0,e⟩:=List.mem_map.mp hm
   have e' : (if (k0 == NameKind.free && X.env.scope.kind == .function && X.env.kindOf n == some .cell) = true then (n,NameKind.cell) else (n,k0)) = (x,k):=e
   by_cases hk0 : k0 = .free
   ·
    subst hk0
    have en : n = x:=by split at e' <;> exact congrArg Prod.fst e'
    subst en
    obtain ⟨c,ec⟩:=hclh (n,.free) hm0 rfl
    show ∃ c,(cellsFrom (C + 1) scope.names cl).lookup n = some c
    rw [cellsFrom_app,lookup_app,ec]
    cases (cellsFrom (C + 1) scope.names []).lookup n with
    | none => exact ⟨c,rfl⟩
    | some d => exact ⟨d,rfl⟩
   ·
    have hb : (k0 == NameKind.free) = false:=by simpa using hk0
    rw [hb] at e'
    simp only [Bool.false_and,Bool.false_eq_true,if_false] at e'
    cases e'
    rcases hk with rfl | rfl
    ·
     obtain ⟨c,ec⟩:=cell_has (n:=C + 1) (S.cells _ hm0 rfl)
     refine ⟨c,?_⟩
     show (cellsFrom (C + 1) scope.names cl).lookup _ = some c
     rw [cellsFrom_app,lookup_app,ec]
     rfl
    ·
     exact absurd rfl hk0
  ·
   have z' : scope.names.lookup x = some .cell:=by simpa [cxComp] using z
   obtain ⟨d,ed⟩:=cell_has (n:=C + 1) z'
   have e' : (cellsFrom (C + 1) scope.names cl).lookup x = some c:=e
   rw [cellsFrom_app,lookup_app,ed] at e'
   cases e'
   have:=(hcc.empty x _ (PySem.mem_of_lookup ed)).2
   show s.heap.objs.size <= _
   omega
  ·
   obtain ⟨f0,f1,f2,f3,f4,f5⟩:=hf b hb
   refine ⟨fun z => absurd (hfl b hb) (Nat.not_lt.mpr (by rw [show b = C from z]; exact Nat.le_of_lt hC)),fun x c e => ?_⟩
   rcases two x c e with ⟨q,_⟩ | q
   ·
    intro z
    rw [z] at q
    exact absurd (Nat.lt_of_lt_of_le (Nat.lt_succ_of_lt (Nat.lt_trans (hfl b hb) hC)) q) (Nat.lt_irrefl _)
   ·
    exact f4 x c q
  ·
   obtain ⟨f0,f1,f2,f3,f4,f5⟩:=hf b hb
   rcases f3 with q | q
   ·
    exact I.ok.noex b o e q
   ·
    exact absurd (Heap.lt_size (I.ok.bs b o e).1) (Nat.not_lt.mpr q)
  ·
   obtain ⟨f0,f1,f2,f3,f4,f5⟩:=hf b hb
   rcases List.mem_cons.mp (I.stkSub b z) with q | q
   ·
    exact f1 q
   ·
    exact f2 q
 obtain ⟨m,hnm,hl⟩:=id I.loc
 refine ⟨hok,rfl,I.bare,Un.kept hk,⟨_,hn,fun i x v e1 e2 e3 => ?_⟩,fun x c e => ?_,I.hok.fresh (Nat.le_of_lt hC),fun x c e => ?_,fun p hp' => ?_,I.hok.kept hk,?_⟩
 ·
  -- a name of the block: one that it takes from around
  unfold capS at e2
  by_cases hi : i < nt
  ·
   rw [List.getElem?_append_left (by simpa using hi),List.getElem?_replicate] at e2
   split at e2 <;> cases e2
  ·
   obtain ⟨j,rfl⟩ : ∃ j,i = nt + j:=⟨i - nt,by omega⟩
   obtain ⟨k,ck,hN,hfree⟩:=S.caps j x e1
   rw [List.getElem?_append_right (by simp),List.length_replicate,Nat.add_sub_cancel_left,List.getElem?_map,ck] at e2
   have e2' : (σ[k]?).getD none = some v:=Option.some.inj e2
   have e2'' : σ[k]? = some (some v):=by
    cases q : σ[k]? with
    | none => rw [q] at e2'; cases e2'
    | some z => rw [q] at e2'; exact congrArg some e2'
   have hkd:=S.free (x,.free) (PySem.mem_of_lookup hfree) rfl
   obtain ⟨u,ru,lk⟩:=hl k x v hN e2'' (.inr hkd)
   refine ⟨u,ru,.inr ⟨lookup_relabel_free hfree,?_⟩⟩
   rcases lk with ⟨kl,_⟩ | ⟨_,c,hc,hcell⟩
   ·
    rcases hkd with z | z <;> (rw [kl] at z; cases z)
   ·
    obtain ⟨c',hc'⟩:=hclh (x,.free) (PySem.mem_of_lookup hfree) rfl
    have e:=hcl x c' hc'
    rw [hc] at e; cases e
    obtain ⟨o,ho,hd⟩:=hcell
    refine ⟨c,?_,o,hk _ _ ho,hd⟩
    show (cellsFrom (C + 1) scope.names cl).lookup x = some c
    rw [cellsFrom_app,lookup_app]
    cases q : (cellsFrom (C + 1) scope.names []).lookup x with
    | none => exact hc'
    | some d =>
     rcases cells_name (PySem.mem_of_lookup q) with z | z
     ·
      have:=S.cells _ z rfl
      rw [hfree] at this
      cases this
     ·
      cases z
 ·
  rcases two x c e with ⟨_,q⟩ | q
  ·
   exact ⟨none,(hcc.empty x c (PySem.mem_of_lookup q)).1⟩
  ·
   obtain ⟨v,o,ho,hd⟩:=I.cell x c q
   exact ⟨v,o,hk _ _ ho,hd⟩
 ·
  rcases two x c e with ⟨q,_⟩ | q
  ·
   exact I.hok.fresh (Nat.le_of_lt (Nat.lt_of_lt_of_le (Nat.lt_succ_of_lt hC) q))
  ·
   exact I.freeC x c q
 ·
  rcases List.mem_append.mp hp' with z | z
  ·
   obtain ⟨e,n,n1,n2,d⟩:=I.pin p z
   refine ⟨hk _ _ e,n,fun q => ?_,fun q => ?_,d⟩
   ·
    exact absurd (Heap.lt_size e) (Nat.not_lt.mpr (by rw [show p.1 = C from q]; exact Nat.le_of_lt hC))
   ·
    rcases List.mem_cons.mp (I.stkSub p.1 q) with q | q
    ·
     exact n1 q
    ·
     exact n2 q
  ·
   obtain ⟨e,n,d⟩:=hp p z
   refine ⟨e,I.hok.fresh (by omega),fun q => ?_,fun q => ?_,d⟩
   ·
    exact absurd (n.trans (show p.1 = C from q)) (Nat.ne_of_lt hC)
   ·
    have:=I.stkSub p.1 q
    rcases List.mem_cons.mp this with q | q
    ·
     exact absurd I.lt (Nat.not_lt.mpr (by rw [<- q,n]; exact Nat.le_refl _))
    ·
     exact I.nofs (by omega) q
 ·
  unfold capS
  show _ = N'.length
  rw [List.length_append,List.length_replicate,List.length_map,S.len]
theorem HOk.track {P : Program} {w : World} {H : Hp} {h h' : Heap} {a C : Addr} {o : HO} (x : HOk P w H h) (hn : H a = none) (hC : H C = none) (k : ∀ b u,b ≠ C -> h.get? b = some u -> h'.get? b = some u) (new : ObjOk P w (upd H a o) h' a o) : HOk P w (upd H a o) h':=fun b u e => by
 by_cases hb : b = a
 ·
  subst hb; rw [upd_same] at e; cases e; exact new
 ·
  rw [upd_ne hb] at e
  have nC : ∀ c z,H c = some z -> c ≠ C:=fun c z q r => by rw [r,hC] at q; cases q
  refine (x b u e).stay (fun c v hc q => k c v ?_ q) (fun c q => by rw [upd_ne (ne_of_none q hn)]; exact q) fun c xs q => by rw [upd_ne (ne_of_none q hn)]; exact q
  rcases hc with rfl | hc
  ·
   exact nC c u e
  ·
   exact nC c _ hc
theorem comp_run {X : Cx} {pins : List (Addr × Obj)} {σ : St} {H₂ : Hp} {s₂ : Shared} {N' : List Str} {nt : Nat} {cap : List Nat} {scope : Scope} {cl : List (Str × Addr)} {elt tg iter : Expr} {ifs : List Expr} {pos : Pos} {g : TG} {tt : TT} {te : TE}
  {it : Addr} {fp : List Addr} {tn : Nat -> Heap -> Prop} {J : It} {fin : List V -> Hp -> Prop} {E : Value -> Shared -> Prop} {RR : Value -> Addr -> Result -> Shared -> Prop}
  (hc : X.calm = true) (S : CompSc X N' nt cap scope) (hcl : ∀ x c,cl.lookup x = some c -> X.env.cells.lookup x = some c) (hclh : ∀ y ∈ scope.names,y.2 = .free -> ∃ c,cl.lookup y.1 = some c)
  (hX : ∀ cl pins s H C fp,PG (cxComp X N' scope cl pins s H C fp) tg g /\ PIf (cxComp X N' scope cl pins s H C fp) ifs tt /\ PE (cxComp X N' scope cl pins s H C fp) elt te)
  (I : Inv X pins σ H₂ s₂) (T : Turn X.prog X.w X.K tg J fp it tn) (st : tn 0 s₂.heap) (hf : ∀ b ∈ fp,FpOk X pins H₂ b) (hw : CompW J g tt te fin (capS nt cap σ) H₂)
  (hRR : ∀ (D C : Addr) (s₄ : Shared) (m : Str -> Option Value) (ys : List V) (H' : Hp),s₄.heap.Ns C m -> s₂.heap.objs.size <= D -> s₂.heap.objs.size <= C -> C ≠ D -> H' D = none -> H' C = none -> ys.length <= sizeLine -> fin ys H' ->
   (∀ h',(∀ b o,b ≠ C -> s₄.heap.get? b = some o -> h'.get? b = some o) -> Inv X pins σ (upd H' D (.lst ys)) { s₄ with heap:=h' }) -> RR (.ref D) C (.ok .next) s₄) :
  wpAny (model X.prog X.w) X.A (newList []) (fun acc s₃ => wpAny (model X.prog X.w) X.A (newFunctionEnv scope X.env.globals cl [] X.env.qual none .none (some X.env)) (fun cenv s₄ =>
   codeAny (model X.prog X.w) X.A (.compStart (.ListComp elt [⟨tg,iter,ifs,0⟩] scope pos) 0 (.ref it) acc { cenv with scope:=relabel scope X.env }) (RR acc cenv.locals) s₄) E s₃) E s₂:=by
 refine wpAny_newObj_type (newEnvC ?_)
 dsimp only
 generalize hH2 : s₂.heap.push { cls:=.type "list",dict:=none,data:=.seq ([] : List Value).toArray } = B
 generalize hD : s₂.heap.objs.size = D
 have hB : B.objs.size = D + 1:=by rw [<- hH2,Heap.size_push,hD]
 have hcc0 : CellsOk (pushCells (B.push { cls:=.type "dict",data:=.dict #[] }) scope.names) (B.objs.size + 1) (cellsFrom (B.objs.size + 1) scope.names []):=by
  have:=cellsFrom_ok scope.names (B.push { cls:=.type "dict",data:=.dict #[] }) (B.objs.size + 1) [] ⟨fun _ _ hm => (nomatch hm),List.Pairwise.nil⟩ (by rw [Heap.size_push]; exact Nat.le_refl _)
  rw [Heap.size_push] at this
  exact this
 have hns₁ : (pushCells (B.push { cls:=.type "dict",data:=.dict #[] }) scope.names).Ns B.objs.size fun _ => none:=(Heap.Ns.new B (.type "dict")).keeps (pushCells_keeps _ _)
 have kp₁ : ∀ b o,B.get? b = some o -> (pushCells (B.push { cls:=.type "dict",data:=.dict #[] }) scope.names).get? b = some o:=fun b o e => pushCells_keeps _ _ b o (Heap.get?_push_of_some _ e)
 generalize hCe : B.objs.size = C at hns₁ hcc0 ⊢
 generalize pushCells (B.push { cls:=.type "dict",data:=.dict #[] }) scope.names = h₁ at hns₁ hcc0 kp₁ ⊢
 have hCD : C = D + 1:=hCe.symm.trans hB
 have hDC : D ≠ C:=by rw [hCD]; exact Nat.ne_of_lt (Nat.lt_succ_self _)
 have hDlt : s₂.heap.objs.size < C:=by rw [hD,hCD]; exact Nat.lt_succ_self _
 have below : ∀ b o,s₂.heap.get? b = some o -> b ≠ C /\ b ≠ D:=fun b o e => by
  have:=Heap.lt_size e
  rw [hD] at this
  exact ⟨by rw [hCD]; exact Nat.ne_of_lt (Nat.lt_succ_of_lt this),Nat.ne_of_lt this⟩
 have old : ∀ b o,s₂.heap.get? b = some o -> h₁.get? b = some o:=fun b o e => kp₁ b o (hH2 ▸ Heap.get?_push_of_some _ e)
 have hacc : h₁.get? D = some { cls:=.type "list",data:=.seq ([] : List Value).toArray 0 }:=kp₁ _ _ (hH2 ▸ hD ▸ Heap.get?_push_size _ rfl)
 have hst₁ : tn 0 h₁:=T.keep _ _ _ st fun b hb o e => old b o e
 have hfl : ∀ b ∈ fp,b < s₂.heap.objs.size:=fun b hb => by obtain ⟨o,e,_⟩:=T.obj _ _ st b hb; exact Heap.lt_size e
 obtain ⟨W,⟨m0,w0⟩,turn⟩:=hw
 obtain ⟨hg,hi,he⟩:=hX (cellsFrom (C + 1) scope.names cl) pins s₂ H₂ C fp
 have stat : ∀ {H' : Hp} {k : Nat} {its : List Value},(∀ b ∈ fp,H' b = none) -> ∀ b ∈ fp,FpOk (cxComp X N' scope (cellsFrom (C + 1) scope.names cl) pins s₂ H₂ C fp) [(D,{ cls:=.type "list",data:=.seq its.toArray k })] H' b:=fun {H' k its} hn b hb => by
  obtain ⟨f0,f1,f2,f3,f4,f5⟩:=hf b hb
  have hlt:=hfl b hb
  refine ⟨hn b hb,fun z => ?_,fun z => ?_,.inl hb,fun x c e => ?_,fun p hp => ?_⟩
  ·
   rw [show b = C from z] at hlt; exact absurd hlt (Nat.not_lt.mpr (Nat.le_of_lt hDlt))
  ·
   rcases List.mem_cons.mp (I.stkSub b z) with q | q
   ·
    exact f1 q
   ·
    exact f2 q
  ·
   rcases cells_either e with q | q
   ·
    have:=(hcc0.empty x c (PySem.mem_of_lookup q)).2
    intro z
    rw [z] at this
    exact absurd (Nat.lt_of_lt_of_le (Nat.lt_succ_of_lt (Nat.lt_trans hlt hDlt)) this) (Nat.lt_irrefl _)
   ·
    exact f4 x c (hcl x c q.2)
  ·
   rcases List.mem_append.mp hp with z | z
   ·
    exact f5 p z
   ·
    rw [List.mem_singleton.mp z]
    intro e
    rw [<- (show D = b from e),hD] at hlt
    exact Nat.lt_irrefl _ hlt
 have loop : ∀ s₃ : Shared,s₃ = { s₂ with heap:=h₁ } -> codeAny (model X.prog X.w) X.A (.compLoop (.ListComp elt [⟨tg,iter,ifs,0⟩] scope pos) 0 (.ref it) (.ref D) (compEnvC scope (cellsFrom (C + 1) scope.names cl) C X.env)) (RR (.ref D) C) s₃:=by
  rintro s₃ rfl
  refine compLoop_gen (fun n s' => ∃ i ys its k σ' H',Inv (cxComp X N' scope (cellsFrom (C + 1) scope.names cl) pins s₂ H₂ C fp) [(D,{ cls:=.type "list",data:=.seq its.toArray k })] σ' H' s' /\ Vals ys its /\ tn i s'.heap /\ (∀ b ∈ fp,H' b = none) /\ W i n ys σ' H' /\ ys.length <= sizeLine) ?_ m0
   ⟨0,[],[],0,capS nt cap σ,H₂,inv_comp (tk:=s₂.toks) S I hcl hclh hf hfl hDlt hns₁ old (fun p hp => ?_) hcc0,.nil,hst₁,fun b hb => (hf b hb).1,w0,Nat.zero_le _⟩
  ·
   rintro n s3 ⟨i,ys,its,k,σ3,H3,I3,rv,st3,fr3,w3,hz⟩
   have pD:=I3.pin (D,{ cls:=.type "list",data:=.seq its.toArray k }) (List.mem_append_right _ (List.mem_singleton.mpr rfl))
   rcases turn i n ys σ3 H3 w3 with ⟨stop,hz',hfin⟩ | ⟨go,step⟩
   ·
    refine thn (T.done (cxComp X N' scope (cellsFrom (C + 1) scope.names cl) pins s₂ H₂ C fp) rfl rfl rfl hc i _ s3 σ3 H3 (fun _ _ => False) I3 (stat fr3) st3 stop) fun r s4 ⟨hr,I4⟩ => ?_
    subst hr
    obtain ⟨m4,hn4,_⟩:=I4.loc
    have pD4:=I4.pin (D,{ cls:=.type "list",data:=.seq its.toArray k }) (List.mem_append_right _ (List.mem_singleton.mpr rfl))
    refine hRR D C s4 m4 ys H3 hn4 (by rw [hD]; exact Nat.le_refl _) (Nat.le_of_lt hDlt) (Ne.symm hDC) pD4.2.1 I4.free hz' hfin fun h' k' => ?_
    have nD : ∀ b u,H3 b = some u -> b ≠ D:=fun b u e z => by rw [z,pD4.2.1] at e; cases e
    have nDs : ∀ b o,s₂.heap.get? b = some o -> b ≠ D /\ b ≠ C:=fun b o e => ⟨(below b o e).2,(below b o e).1⟩
    have B4:=I4.base
    refine I.call' (s':={ s4 with heap:=h' }) (ch:=fp) I4.os ⟨fun b o e n hb hx => k' b o (nDs b o e).2 (B4.keep b o e n hb hx),fun b o e n hb hx => ?_,fun b o e n hx => ?_,fun b o e hx => ?_,fun b xs e => ?_,fun b o u e => ?_,fun b ps e => ?_⟩ ?_ I4.bare fun b hb => ?_
    ·
     obtain ⟨sl,q⟩:=B4.slot b o e n hb hx
     exact ⟨sl,k' b _ (nDs b o e).2 q⟩
    ·
     rw [upd_ne (nDs b o e).1]; exact B4.free b o e n hx
    ·
     obtain ⟨o',q⟩:=B4.there b o e hx
     exact ⟨o',k' b _ (nDs b o e).2 q⟩
    ·
     have q:=B4.tups b xs e
     rw [upd_ne (nD _ _ q)]; exact q
    ·
     have q:=B4.frzs b o u e
     rw [upd_ne (nD _ _ q)]; exact q
    ·
     obtain ⟨more,q⟩:=B4.tbls b ps e
     exact ⟨more,by rw [upd_ne (nD _ _ q)]; exact q⟩
    ·
     exact I4.hok.track pD4.2.1 I4.free k' ⟨hz',its,k,rv,k' D _ hDC pD4.1⟩
    ·
     obtain ⟨f0,f1,f2,f3,f4,f5⟩:=hf b hb
     exact ⟨f3,f1,f4,f5⟩
   ·
    refine thn (T.item (cxComp X N' scope (cellsFrom (C + 1) scope.names cl) pins s₂ H₂ C fp) rfl rfl rfl hc i _ s3 σ3 H3 (fun _ _ => False) I3 (stat fr3) st3 go) fun r s4 ⟨u,hr,h4⟩ => ?_
    subst hr
    refine thn h4 fun _ s5 ⟨x,H5,I5,r5,y5,st5,fr5⟩ => ?_
    have I5':=I5.pinned (stat fr5) (T.obj _ _ st5)
    refine thn (hg _ s5 σ3 H5 x u _ I5' r5 (step x H5 y5)) fun _ s6 ⟨σ6,H6,I6,q6⟩ => ?_
    refine thn (hi _ s6 σ6 H6 _ I6 q6) fun ok s7 ⟨H7,I7,q7⟩ => ?_
    have back : ∀ {σ8 : St} {H8 : Hp} {s8 : Shared},Inv (cxComp X N' scope (cellsFrom (C + 1) scope.names cl) pins s₂ H₂ C fp) ([(D,{ cls:=.type "list",data:=.seq its.toArray k })] ++ pinsAt fp s5.heap) σ8 H8 s8 -> tn (i + 1) s8.heap /\ ∀ b ∈ fp,H8 b = none:=fun {σ8 H8 s8} I8 =>
     ⟨T.keep _ _ _ st5 fun b hb o e => (I8.pin (b,o) (List.mem_append_right _ (List.mem_append_right _ (mem_pinsAt hb e)))).1,fun b hb => by
      obtain ⟨o,e,d⟩:=T.obj _ _ st5 b hb
      exact (I8.pin (b,o) (List.mem_append_right _ (List.mem_append_right _ (mem_pinsAt hb e)))).2.1⟩
    cases ok with
    | false =>
     rw [if_neg Bool.false_ne_true] at q7 ⊢
     obtain ⟨m',hm,w7⟩:=q7
     exact ⟨m',hm,i + 1,ys,its,k,σ6,H7,I7.unpinned,rv,(back I7).1,(back I7).2,w7,hz⟩
    | true =>
     rw [if_pos rfl] at q7 ⊢
     refine thn (he _ s7 σ6 H7 _ I7 q7) fun uy s8 ⟨y,H8,I8,ry,hz8,m',hm,w8⟩ => ?_
     have pD8:=I8.pin (D,{ cls:=.type "list",data:=.seq its.toArray k }) (List.mem_append_right _ (List.mem_append_left _ (List.mem_singleton.mpr rfl)))
     have hl:=rv.length
     refine list_obj_append pD8.1 (by omega) fun h' k' e' kk => ?_
     have I9 : Inv (cxComp X N' scope (cellsFrom (C + 1) scope.names cl) pins s₂ H₂ C fp) [] σ6 H8 { s8 with heap:=h' }:=by
      refine Inv.turned (t':=s8.toks) (it:=D) (I8.pins_of (pins':=[]) (fun p hp => nomatch hp)) (fun b o hb e => kk b o hb e) pD8.2.1 pD8.2.2.1 (.inr (by show s₂.heap.objs.size <= D; rw [hD]; exact Nat.le_refl _)) (fun x c e z => ?_) (fun p hp z => ?_)
      ·
       rcases cells_either e with q | q
       ·
        have:=(hcc0.empty x c (PySem.mem_of_lookup q)).2
        rw [z,hCD] at this
        omega
       ·
        obtain ⟨v,q⟩:=I.cell x c (hcl x c q.2)
        have:=q.lt
        rw [z,hD] at this
        exact Nat.lt_irrefl _ this
      ·
       rw [List.append_nil] at hp
       have:=Heap.lt_size (I.pin p hp).1
       rw [z,hD] at this
       exact Nat.lt_irrefl _ this
     refine ⟨m',hm,i + 1,ys ++ [y],its ++ [uy],k',σ6,H8,I9.pins_of fun p hp => ?_,rv.append (.cons ry .nil),?_,(back I8).2,w8,?_⟩
     ·
      rw [List.mem_singleton.mp hp]
      exact ⟨e',pD8.2.1,pD8.2.2.1,pD8.2.2.2.1,fun v z => by cases z⟩
     ·
      refine T.keep _ _ _ (back I8).1 fun b hb o e => kk b o (fun z => ?_) e
      have:=hfl b hb
      rw [z,hD] at this
      exact Nat.lt_irrefl _ this
     ·
      rw [List.length_append,List.length_singleton]; omega
  ·
   rw [List.mem_singleton.mp hp]
   exact ⟨hacc,hD,fun v z => by cases z⟩
 exact codeAny_compStart_list (loop _ rfl) (T.self _ 0 _ _ _ hst₁ (loop _ rfl))
def tComp (wi : TI) (g : TG) (tt : TT) (te : TE) (nt : Nat) (cap : List Nat) : TE:=fun σ H Q => wi σ H fun J H1 => CompW J g tt te (fun ys H' => ∀ p,H' p = none -> Q (.ref p) (upd H' p (.lst ys))) (capS nt cap σ) H1
theorem pe_comp {X : Cx} {N' : List Str} {nt : Nat} {cap : List Nat} {scope : Scope} {elt tg iter : Expr} {ifs : List Expr} {pos : Pos} {wi : TI} {g : TG} {tt : TT} {te : TE} (hc : X.calm = true) (S : CompSc X N' nt cap scope) (hi : PI X tg iter wi)
  (hX : ∀ cl pins s H C fp,PG (cxComp X N' scope cl pins s H C fp) tg g /\ PIf (cxComp X N' scope cl pins s H C fp) ifs tt /\ PE (cxComp X N' scope cl pins s H C fp) elt te)
  (hs : ∀ x,foldedSetIterable iter X.env x = pure x:=by intro _; rfl) : PE X (.ListComp elt [⟨tg,iter,ifs,0⟩] scope pos) (tComp wi g tt te nt cap):=by
 intro pins s σ H Q I h
 rw [eval_ListComp]
 obtain ⟨cl,hclos,hcl,hclh⟩:=closure_ok (scope:=scope) (env:=X.env) fun y hy hf => I.ok.has y.1 (S.free y hy hf)
 refine wpAny_comprehension_free (use:=none) rfl hs hclos S.kind S.names (thn (hi pins s σ H _ I h) fun v s1 h1 => thn h1 fun itv s2 h2 => ?_)
 obtain ⟨it,fp,tn,J,H2,rfl,I2,T,st2,f2,hw⟩:=h2
 refine comp_run (RR:=fun acc C => compPost (model X.prog X.w) X.A X.xe none (EP X pins σ Q) acc C) hc S hcl hclh hX I2 T st2 f2 hw fun D C s4 m ys H' hn hD hC hDC nD nC hz hfin k => ?_
 refine ⟨m,hn,fun h' hs' => ?_⟩
 exact ⟨.ref D,_,k h' fun b o hb e => hs'.extBut b o hb e,rfl,hfin D nD⟩
def tSetComp (wi : TI) (g : TG) (tt : TT) (te : TE) (nt : Nat) (cap : List Nat) (i : Nat) : TS:=fun D σ H => wi σ H fun J H1 => CompW J g tt te (fun ys H' => ∀ p,H' p = none -> D.nx (σ.set i (some (.ref p))) (upd H' p (.lst ys))) (capS nt cap σ) H1
theorem ps_setC {X : Cx} {N' : List Str} {nt : Nat} {cap : List Nat} {scope : Scope} {elt tg iter : Expr} {ifs : List Expr} {pos pos' spos : Pos} {wi : TI} {g : TG} {tt : TT} {te : TE} {i : Nat} {x : Str} (hc : X.calm = true) (hN : X.N.Nodup) (hi' : X.N[i]? = some x) (hx : Loc X.env.scope x) (S : CompSc X N' nt cap scope) (hi : PI X tg iter wi)
  (hX : ∀ cl pins s H C fp,PG (cxComp X N' scope cl pins s H C fp) tg g /\ PIf (cxComp X N' scope cl pins s H C fp) ifs tt /\ PE (cxComp X N' scope cl pins s H C fp) elt te)
  (hsw : swapsWith (.ListComp elt [⟨tg,iter,ifs,0⟩] scope pos) (some (.Name x pos')) spos.line X.env = pure true:=by rfl)
  (hs : ∀ x,foldedSetIterable iter X.env x = pure x:=by intro _; rfl) (hf : X.fn x = true \/ X.env.scope.names.lookup x = some .local:=by first | exact .inl rfl | exact .inr rfl | assumption) :
  PS X (.Assign [.Name x pos'] (.ListComp elt [⟨tg,iter,ifs,0⟩] scope pos) spos) (tSetComp wi g tt te nt cap i):=by
 intro pins s σ H Dn I h
 rw [exec_Assign_Name_used _ _ _ _ hsw]
 obtain ⟨cl,hclos,hcl,hclh⟩:=closure_ok (scope:=scope) (env:=X.env) fun y hy hf => I.ok.has y.1 (S.free y hy hf)
 refine wpAny_bind (wpAny_standAt (wpAny_bind ?_))
 show wpAny _ X.A (do let _ <- comprehension (.ListComp elt [⟨tg,iter,ifs,0⟩] scope pos) scope X.env _ (newList []) false (eval iter X.env) (some (assign (.Name x pos') X.env))) _ _ s
 refine wpAny_bind (wpAny_mono (wpAny_comprehension_free (use:=some (assign (.Name x pos') X.env)) (Q:=fun _ s' => SP X pins Dn .next s') rfl hs hclos S.kind S.names
  (thn (hi pins s σ H _ I h) fun v s1 h1 => thn h1 fun itv s2 h2 => ?_)) (fun _ s' hq => wpAny_pure (wpAny_pure hq)) fun _ _ e => e)
 obtain ⟨it,fp,tn,J,H2,rfl,I2,T,st2,f2,hw⟩:=h2
 refine comp_run (RR:=fun acc C => compPost (model X.prog X.w) X.A X.xe (some (assign (.Name x pos') X.env)) (fun _ s' => SP X pins Dn .next s') acc C) hc S hcl hclh hX I2 T st2 f2 hw fun D C s4 m ys H' hn hD hC hDC nD nC hz hfin k => ?_
 show wpAny _ X.A (assign (.Name x pos') X.env (.ref D)) _ _ s4
 have I4:=k s4.heap fun b o _ e => e
 have nCL : C ≠ X.env.locals:=fun z => by have:=I2.lt; rw [<- z] at this; exact absurd this (Nat.not_lt.mpr hC)
 have nCc : ∀ y c,X.env.cells.lookup y = some c -> c ≠ C:=fun y c e z => by
  obtain ⟨v,q⟩:=I2.cell y c e
  have:=q.lt
  rw [z] at this
  exact absurd this (Nat.not_lt.mpr hC)
 refine wpAny_assign_Name (store_ok2 I4 hN hi' hx (show RelV (.ref D) (.ref D) from rfl) (fun s5 I5 ⟨a,sb,ha⟩ => ?_) hf)
 have nCa : C ≠ a:=by
  rcases ha with rfl | ha
  ·
   exact nCL
  ·
   exact fun z => nCc x a ha z.symm
 refine ⟨m,hn.sameBut sb nCa,fun h' hs' => ⟨_,_,Inv.turned (t':=s5.toks) (it:=C) I5 (fun b o hb e => hs'.extBut b o hb e) (by rw [upd_ne hDC]; exact nC) nCL (.inr (Nat.le_trans I2.sz hC)) nCc (fun p hp z => ?_),hfin D nD⟩⟩
 have:=Heap.lt_size (I2.pin p hp).1
 rw [z] at this
 exact absurd this (Nat.not_lt.mpr hC)
end L2
namespace L3
open PySem PySem.Spec PyProof.Rows L2
inductive T where
 | non | bl (b : Bool) | int (i : Int) | str (x : Str) | tup (ts : List T) | ref (a : Addr) | ty (n : String)
mutual
def Rep (K : PySem.W.Frag) (H : Hp) : T -> V -> Prop
 | .non,v => v = .non
 | .bl b,v => v = .bl b
 | .int i,v => v = .int i
 | .str x,v => v = .str x
 | .tup ts,v => ∃ a xs,v = .ref a /\ SqT K H a xs /\ Reps K H ts xs
 | .ref a,v => v = .ref a
 | .ty n,v => v = .ty n
def Reps (K : PySem.W.Frag) (H : Hp) : List T -> List V -> Prop
 | [],xs => xs = []
 | t :: ts,xs => ∃ x r,xs = x :: r /\ Rep K H t x /\ Reps K H ts r
end
def TupLe (K : PySem.W.Frag) (H H' : Hp) : Prop:=∀ a xs,SqT K H a xs -> SqT K H' a xs
theorem TupLe.refl {K : PySem.W.Frag} {H : Hp} : TupLe K H H:=fun _ _ h => h
theorem TupLe.trans {K : PySem.W.Frag} {H H1 H2 : Hp} (a : TupLe K H H1) (b : TupLe K H1 H2) : TupLe K H H2:=fun c xs h => b c xs (a c xs h)
mutual
theorem Rep.mono {K : PySem.W.Frag} {H H' : Hp} (le : TupLe K H H') : ∀ {t : T} {v : V},Rep K H t v -> Rep K H' t v
 | .non,_,h => by simp only [Rep] at h ⊢; exact h
 | .bl _,_,h => by simp only [Rep] at h ⊢; exact h
 | .int _,_,h => by simp only [Rep] at h ⊢; exact h
 | .str _,_,h => by simp only [Rep] at h ⊢; exact h
 | .ref _,_,h => by simp only [Rep] at h ⊢; exact h
 | .ty _,_,h => by simp only [Rep] at h ⊢; exact h
 | .tup ts,_,h => by
  simp only [Rep] at h ⊢
  obtain ⟨a,xs,e,s,r⟩:=h
  exact ⟨a,xs,e,le a xs s,Reps.mono le r⟩
theorem Reps.mono {K : PySem.W.Frag} {H H' : Hp} (le : TupLe K H H') : ∀ {ts : List T} {xs : List V},Reps K H ts xs -> Reps K H' ts xs
 | [],_,h => by simp only [Reps] at h ⊢; exact h
 | t :: ts,_,h => by
  simp only [Reps] at h ⊢
  obtain ⟨x,r,e,a,b⟩:=h
  exact ⟨x,r,e,Rep.mono le a,Reps.mono le b⟩
end
section
variable {K : PySem.W.Frag} {H : Hp}
theorem Reps.nil : Reps K H [] []:=by simp only [Reps]
theorem Reps.cons {t : T} {v : V} {ts : List T} {vs : List V} (a : Rep K H t v) (b : Reps K H ts vs) : Reps K H (t :: ts) (v :: vs):=by simp only [Reps]; exact ⟨v,vs,rfl,a,b⟩
theorem Reps.inv {t : T} {ts : List T} {vs : List V} (h : Reps K H (t :: ts) vs) : ∃ v r,vs = v :: r /\ Rep K H t v /\ Reps K H ts r:=by simp only [Reps] at h; exact h
theorem Reps.inv0 {vs : List V} (h : Reps K H [] vs) : vs = []:=by simp only [Reps] at h; exact h
theorem Reps.length : ∀ {ts : List T} {vs : List V},Reps K H ts vs -> ts.length = vs.length
 | [],_,h => by rw [h.inv0]; rfl
 | t :: ts,_,h => by obtain ⟨v,r,rfl,_,b⟩:=h.inv; simp [Reps.length b]
theorem Reps.get : ∀ {ts : List T} {vs : List V} {i : Nat} {t : T},Reps K H ts vs -> ts[i]? = some t -> ∃ v,vs[i]? = some v /\ Rep K H t v
 | [],_,_,_,_,e => by simp at e
 | a :: ts,_,0,t,h,e => by obtain ⟨v,r,rfl,q,_⟩:=h.inv; simp at e; subst e; exact ⟨v,rfl,q⟩
 | a :: ts,_,i + 1,t,h,e => by obtain ⟨v,r,rfl,_,b⟩:=h.inv; simpa using Reps.get b (by simpa using e)
theorem Reps.get' : ∀ {ts : List T} {vs : List V} {i : Nat} {v : V},Reps K H ts vs -> vs[i]? = some v -> ∃ t,ts[i]? = some t /\ Rep K H t v
 | [],_,_,_,h,e => by rw [h.inv0] at e; simp at e
 | a :: ts,_,0,v,h,e => by obtain ⟨x,r,rfl,q,_⟩:=h.inv; simp at e; subst e; exact ⟨a,rfl,q⟩
 | a :: ts,_,i + 1,v,h,e => by obtain ⟨x,r,rfl,_,b⟩:=h.inv; simpa using Reps.get' b (by simpa using e)
theorem Reps.append : ∀ {ts us : List T} {xs ys : List V},Reps K H ts xs -> Reps K H us ys -> Reps K H (ts ++ us) (xs ++ ys)
 | [],_,_,_,h,h' => by rw [h.inv0]; exact h'
 | t :: ts,_,_,_,h,h' => by obtain ⟨v,r,rfl,a,b⟩:=h.inv; exact .cons a (Reps.append b h')
theorem Reps.take : ∀ {ts : List T} {xs : List V} (n : Nat),Reps K H ts xs -> Reps K H (ts.take n) (xs.take n)
 | [],_,n,h => by rw [h.inv0]; simp only [List.take_nil]; exact .nil
 | t :: ts,_,0,h => .nil
 | t :: ts,_,n + 1,h => by obtain ⟨v,r,rfl,a,b⟩:=h.inv; exact .cons a (Reps.take n b)
theorem Reps.drop : ∀ {ts : List T} {xs : List V} (n : Nat),Reps K H ts xs -> Reps K H (ts.drop n) (xs.drop n)
 | [],_,n,h => by rw [h.inv0]; simp only [List.drop_nil]; exact .nil
 | t :: ts,_,0,h => h
 | t :: ts,_,n + 1,h => by obtain ⟨v,r,rfl,a,b⟩:=h.inv; exact Reps.drop n b
theorem Reps.set : ∀ {ts : List T} {xs : List V} {t : T} {v : V} (n : Nat),Reps K H ts xs -> Rep K H t v -> Reps K H (ts.set n t) (xs.set n v)
 | [],_,_,_,n,h,r => by rw [h.inv0]; exact .nil
 | t :: ts,_,_,_,0,h,q => by obtain ⟨v,r,rfl,a,b⟩:=h.inv; exact .cons q b
 | t :: ts,_,_,_,n + 1,h,q => by obtain ⟨v,r,rfl,a,b⟩:=h.inv; exact .cons a (Reps.set n b q)
theorem Reps.reverse {ts : List T} {xs : List V} (h : Reps K H ts xs) : Reps K H ts.reverse xs.reverse:=by
 induction ts generalizing xs with
 | nil => rw [h.inv0]; exact .nil
 | cons t ts ih => obtain ⟨v,r,rfl,a,b⟩:=h.inv; simp only [List.reverse_cons]; exact (ih b).append (.cons a .nil)
theorem Reps.eraseIdx : ∀ {ts : List T} {xs : List V} (n : Nat),Reps K H ts xs -> Reps K H (ts.eraseIdx n) (xs.eraseIdx n)
 | [],_,n,h => by rw [h.inv0]; exact .nil
 | t :: ts,_,0,h => by obtain ⟨v,r,rfl,a,b⟩:=h.inv; exact b
 | t :: ts,_,n + 1,h => by obtain ⟨v,r,rfl,a,b⟩:=h.inv; exact .cons a (Reps.eraseIdx n b)
theorem Rep.non {v : V} (h : Rep K H .non v) : v = .non:=by simp only [Rep] at h; exact h
theorem Rep.bl {b : Bool} {v : V} (h : Rep K H (.bl b) v) : v = .bl b:=by simp only [Rep] at h; exact h
theorem Rep.int {i : Int} {v : V} (h : Rep K H (.int i) v) : v = .int i:=by simp only [Rep] at h; exact h
theorem Rep.str {x : Str} {v : V} (h : Rep K H (.str x) v) : v = .str x:=by simp only [Rep] at h; exact h
theorem Rep.ref {a : Addr} {v : V} (h : Rep K H (.ref a) v) : v = .ref a:=by simp only [Rep] at h; exact h
theorem Rep.ty {n : String} {v : V} (h : Rep K H (.ty n) v) : v = .ty n:=by simp only [Rep] at h; exact h
theorem Rep.tup {ts : List T} {v : V} (h : Rep K H (.tup ts) v) : ∃ a xs,v = .ref a /\ SqT K H a xs /\ Reps K H ts xs:=by simp only [Rep] at h; exact h
theorem Rep.ofNon : Rep K H .non .non:=by simp only [Rep]
theorem Rep.ofBl {b : Bool} : Rep K H (.bl b) (.bl b):=by simp only [Rep]
theorem Rep.ofInt {i : Int} : Rep K H (.int i) (.int i):=by simp only [Rep]
theorem Rep.ofStr {x : Str} : Rep K H (.str x) (.str x):=by simp only [Rep]
theorem Rep.ofRef {a : Addr} : Rep K H (.ref a) (.ref a):=by simp only [Rep]
theorem Rep.ofTy {n : String} : Rep K H (.ty n) (.ty n):=by simp only [Rep]
theorem Rep.ofTup {ts : List T} {a : Addr} {xs : List V} (h : SqT K H a xs) (r : Reps K H ts xs) : Rep K H (.tup ts) (.ref a):=by simp only [Rep]; exact ⟨a,xs,rfl,h,r⟩
end
inductive O3 where
 | lst (ts : List T) | rol (ts : List T) | dct (kvs : List (Str × T)) | dcp (kvs : List (List Key × T))
abbrev Hp3:=Addr -> Option O3
noncomputable def up3 (H : Hp3) (a : Addr) (o : O3) : Hp3:=fun b => if b = a then some o else H b
theorem up3_same {H : Hp3} {a : Addr} {o : O3} : up3 H a o a = some o:=by unfold up3; rw [if_pos rfl]
theorem up3_ne {H : Hp3} {a b : Addr} {o : O3} (h : b ≠ a) : up3 H a o b = H b:=by unfold up3; rw [if_neg h]
theorem up3_up3 {H : Hp3} {a : Addr} {o u : O3} : up3 (up3 H a o) a u = up3 H a u:=by funext b; unfold up3; split <;> rfl
def RepD (K : PySem.W.Frag) (H : Hp) : List (Str × T) -> List (Key × V) -> Prop:=Paired fun (p : Str × T) (q : Key × V) => q.1 = Sum.inr p.1 /\ Rep K H p.2 q.2
def RepP (K : PySem.W.Frag) (H : Hp) : List (List Key × T) -> List (List Key × V) -> Prop:=Paired fun (p : List Key × T) (q : List Key × V) => q.1 = p.1 /\ Rep K H p.2 q.2
def RepO (K : PySem.W.Frag) (H : Hp) (a : Addr) : O3 -> Prop
 | .lst ts => ∃ xs,H a = some (.lst xs) /\ Reps K H ts xs
 | .rol ts => ∃ xs,Rd H a (.lst xs) /\ Reps K H ts xs
 | .dct kvs => ∃ vs,H a = some (.dK vs) /\ RepD K H kvs vs
 | .dcp kvs => ∃ vs,H a = some (.dT vs) /\ RepP K H kvs vs
def SimH (K : PySem.W.Frag) (H3 : Hp3) (H : Hp) : Prop:=∀ a o,H3 a = some o -> RepO K H a o
abbrev St3:=List (Option T)
structure SimS (K : PySem.W.Frag) (H : Hp) (σ3 : St3) (σ : L2.St) : Prop where
 len : σ3.length = σ.length
 at' : ∀ (i : Nat) (t : T),σ3[i]? = some (some t) -> ∃ v,σ[i]? = some (some v) /\ Rep K H t v
section
variable {K : PySem.W.Frag} {H H' : Hp} {H3 : Hp3} {σ3 : St3} {σ : L2.St}
theorem SimS.mono (s : SimS K H σ3 σ) (le : TupLe K H H') : SimS K H' σ3 σ:=⟨s.len,fun i t e => let ⟨v,e',r⟩:=s.at' i t e; ⟨v,e',r.mono le⟩⟩
theorem SimS.set (s : SimS K H σ3 σ) {i : Nat} {t : T} {v : V} (r : Rep K H t v) : SimS K H (σ3.set i (some t)) (σ.set i (some v)):=by
 refine ⟨by simp [s.len],fun j u e => ?_⟩
 by_cases hj : i = j
 ·
  subst hj
  by_cases hl : i < σ3.length
  ·
   rw [List.getElem?_set_self hl] at e
   have e' : t = u:=Option.some.inj (Option.some.inj e)
   subst e'
   exact ⟨v,by rw [List.getElem?_set_self (by rw [<- s.len]; exact hl)],r⟩
  ·
   rw [List.getElem?_eq_none (by simpa using hl)] at e; cases e
 ·
  rw [List.getElem?_set_ne hj] at e
  rw [List.getElem?_set_ne hj]
  exact s.at' j u e
theorem RepD.mono {kvs : List (Str × T)} {vs : List (Key × V)} (h : RepD K H kvs vs) (le : TupLe K H H') : RepD K H' kvs vs:=Paired.mapP h fun _ _ ⟨a,b⟩ => ⟨a,b.mono le⟩
theorem RepP.mono {kvs : List (List Key × T)} {vs : List (List Key × V)} (h : RepP K H kvs vs) (le : TupLe K H H') : RepP K H' kvs vs:=Paired.mapP h fun _ _ ⟨a,b⟩ => ⟨a,b.mono le⟩
theorem ne3n {a b : Addr} {o : O3} (h : H3 a = some o) (h' : H3 b = none) : a ≠ b:=by
 intro e; subst e; rw [h] at h'; cases h'
theorem upd_tupLe {p : Addr} {o : HO} (hp : H p = none) : TupLe K H (upd H p o):=fun a xs h => by
 rcases h with (h | ⟨ob,h⟩) | h
 ·
  exact .inl (.inl (by rw [upd_ne (ne_of_none h hp)]; exact h))
 ·
  exact .inl (.inr ⟨ob,by rw [upd_ne (ne_of_none h hp)]; exact h⟩)
 ·
  exact .inr h
theorem wr_tupLe {p : Addr} {o : HO} (hp : Mut (H p)) : TupLe K H (upd H p o):=fun a xs h => by
 have key : ∀ u,H a = some u -> ¬ Mut (some u) -> a ≠ p:=fun u e nm z => by subst z; rw [e] at hp; exact nm hp
 rcases h with (h | ⟨ob,h⟩) | h
 ·
  exact .inl (.inl (by rw [upd_ne (key _ h fun z => z)]; exact h))
 ·
  exact .inl (.inr ⟨ob,by rw [upd_ne (key _ h fun z => z)]; exact h⟩)
 ·
  exact .inr h
theorem RepO.stay {a : Addr} {o : O3} (h : RepO K H a o) (le : TupLe K H H') (keep : ∀ u,H a = some u -> H' a = some u) : RepO K H' a o:=by
 cases o with
 | lst ts => obtain ⟨xs,e,r⟩:=h; exact ⟨xs,keep _ e,r.mono le⟩
 | rol ts =>
  obtain ⟨xs,e,r⟩:=h
  refine ⟨xs,?_,r.mono le⟩
  rcases e with e | ⟨ob,e⟩
  ·
   exact .inl (keep _ e)
  ·
   exact .inr ⟨ob,keep _ e⟩
 | dct kvs => obtain ⟨vs,e,r⟩:=h; exact ⟨vs,keep _ e,r.mono le⟩
 | dcp kvs => obtain ⟨vs,e,r⟩:=h; exact ⟨vs,keep _ e,r.mono le⟩
theorem SimH.new {p : Addr} {o : HO} (s : SimH K H3 H) (hp : H p = none) : SimH K H3 (upd H p o):=fun a u e =>
 (s a u e).stay (upd_tupLe hp) fun w q => by rw [upd_ne (ne_of_none q hp)]; exact q
theorem SimH.fresh {p : Addr} (s : SimH K H3 H) (hp : H p = none) : H3 p = none:=by
 cases e : H3 p with
 | none => rfl
 | some o =>
  have q:=s p o e
  cases o with
  | lst ts => obtain ⟨xs,z,_⟩:=q; rw [hp] at z; cases z
  | dct ts => obtain ⟨xs,z,_⟩:=q; rw [hp] at z; cases z
  | dcp ts => obtain ⟨xs,z,_⟩:=q; rw [hp] at z; cases z
  | rol ts =>
   obtain ⟨xs,z,_⟩:=q
   rcases z with z | ⟨ob,z⟩
   ·
    rw [hp] at z; cases z
   ·
    rw [hp] at z; cases z
end
abbrev VK3:=T -> Hp3 -> Prop
abbrev TE3:=St3 -> Hp3 -> VK3 -> Prop
abbrev TT3:=St3 -> Hp3 -> (Bool -> Hp3 -> Prop) -> Prop
abbrev TA3:=St3 -> Hp3 -> (List T -> Hp3 -> Prop) -> Prop
structure Ends3 where
 nx : St3 -> Hp3 -> Prop
 rt : VK3
 bk : St3 -> Hp3 -> Prop:=fun _ _ => False
 ct : St3 -> Hp3 -> Prop:=fun _ _ => False
abbrev TS3:=Ends3 -> St3 -> Hp3 -> Prop
abbrev TG3:=T -> St3 -> Hp3 -> (St3 -> Hp3 -> Prop) -> Prop
abbrev TGs3:=List T -> St3 -> Hp3 -> (St3 -> Hp3 -> Prop) -> Prop
abbrev R3:=T -> T -> Hp3 -> VK3 -> Prop
section
variable (K : PySem.W.Frag)
def KV3 (H : Hp) (Q3 : VK3) (Q : VK) : Prop:=∀ v H' t H3',TupLe K H H' -> SimH K H3' H' -> Rep K H' t v -> Q3 t H3' -> Q v H'
def KS3 (H : Hp) (N3 : St3 -> Hp3 -> Prop) (N : L2.St -> Hp -> Prop) : Prop:=∀ σ' H' σ3' H3',TupLe K H H' -> SimS K H' σ3' σ' -> SimH K H3' H' -> N3 σ3' H3' -> N σ' H'
def lft (t3 : TE3) : TE:=fun σ H Q => ∃ σ3 H3 Q3,SimS K H σ3 σ /\ SimH K H3 H /\ t3 σ3 H3 Q3 /\ KV3 K H Q3 Q
def lftT (t3 : TT3) : TT:=fun σ H Q => ∃ σ3 H3 Q3,SimS K H σ3 σ /\ SimH K H3 H /\ t3 σ3 H3 Q3 /\ ∀ b H' H3',TupLe K H H' -> SimH K H3' H' -> Q3 b H3' -> Q b H'
def lftA (t3 : TA3) : TA:=fun σ H Q => ∃ σ3 H3 Q3,SimS K H σ3 σ /\ SimH K H3 H /\ t3 σ3 H3 Q3 /\ ∀ vs H' ts H3',TupLe K H H' -> SimH K H3' H' -> Reps K H' ts vs -> Q3 ts H3' -> Q vs H'
def lftS (t3 : TS3) : TS:=fun D σ H => ∃ σ3 H3 D3,SimS K H σ3 σ /\ SimH K H3 H /\ t3 D3 σ3 H3 /\ KS3 K H D3.nx D.nx /\ KV3 K H D3.rt D.rt /\ KS3 K H D3.bk D.bk /\ KS3 K H D3.ct D.ct
def lftG (t3 : TG3) : TG:=fun v σ H Q => ∃ t σ3 H3 Q3,Rep K H t v /\ SimS K H σ3 σ /\ SimH K H3 H /\ t3 t σ3 H3 Q3 /\ KS3 K H Q3 Q
def lftGs (t3 : TGs3) : TGs:=fun vs σ H Q => ∃ ts σ3 H3 Q3,Reps K H ts vs /\ SimS K H σ3 σ /\ SimH K H3 H /\ t3 ts σ3 H3 Q3 /\ KS3 K H Q3 Q
def lftR (r3 : R3) : R2:=fun x y H Q => ∃ tx ty H3 Q3,Rep K H tx x /\ Rep K H ty y /\ SimH K H3 H /\ r3 tx ty H3 Q3 /\ KV3 K H Q3 Q
def lftC (r3 : List T -> Hp3 -> VK3 -> Prop) : List V -> Hp -> VK -> Prop:=fun xs H Q => ∃ ts H3 Q3,Reps K H ts xs /\ SimH K H3 H /\ r3 ts H3 Q3 /\ KV3 K H Q3 Q
def lftM (r3 : T -> List T -> Hp3 -> VK3 -> Prop) : V -> List V -> Hp -> VK -> Prop:=fun x xs H Q => ∃ tx ts H3 Q3,Rep K H tx x /\ Reps K H ts xs /\ SimH K H3 H /\ r3 tx ts H3 Q3 /\ KV3 K H Q3 Q
end
section
variable {K : PySem.W.Frag} {H H1 : Hp}
theorem KV3.at {Q3 : VK3} {Q : VK} (k : KV3 K H Q3 Q) (le : TupLe K H H1) : KV3 K H1 Q3 Q:=fun v H' t H3' l => k v H' t H3' (le.trans l)
theorem KS3.at {N3 : St3 -> Hp3 -> Prop} {N : L2.St -> Hp -> Prop} (k : KS3 K H N3 N) (le : TupLe K H H1) : KS3 K H1 N3 N:=fun a b c d l => k a b c d (le.trans l)
end
def PE3 (X : Cx) (e : Expr) (t : TE3) : Prop:=PE X e (lft X.K t)
def PT3 (X : Cx) (e : Expr) (t : TT3) : Prop:=PT X e (lftT X.K t)
def PW3 (X : Cx) (e : Expr) (t : TT3) : Prop:=PW X e (lftT X.K t)
def PA3 (X : Cx) (es : List Expr) (t : TA3) : Prop:=PA X es (lftA X.K t)
def PS3 (X : Cx) (st : Stmt) (t : TS3) : Prop:=PS X st (lftS X.K t)
def PSs3 (X : Cx) (st : List Stmt) (t : TS3) : Prop:=PSs X st (lftS X.K t)
def PG3 (X : Cx) (e : Expr) (t : TG3) : Prop:=PG X e (lftG X.K t)
def PGs3 (X : Cx) (es : List Expr) (t : TGs3) : Prop:=PGs X es (lftGs X.K t)
def OpR3 (X : Cx) (f : Value -> Value -> Sem Value) (r : R3) : Prop:=OpR X f (lftR X.K r)
def CallR3 (X : Cx) (f : Value) (r : List T -> Hp3 -> VK3 -> Prop) : Prop:=CallR X f (lftC X.K r)
def IxR3 (X : Cx) (r : R3) : Prop:=IxR X (lftR X.K r)
def MtR3 (X : Cx) (id : String) (r : T -> List T -> Hp3 -> VK3 -> Prop) : Prop:=MtR X id (lftM X.K r)
theorem PE.imp {X : Cx} {e : Expr} {t t' : TE} (h : PE X e t) (w : ∀ σ H Q,t' σ H Q -> t σ H Q) : PE X e t':=fun pins s σ H Q I q => h pins s σ H Q I (w σ H Q q)
theorem PT.imp {X : Cx} {e : Expr} {t t' : TT} (h : PT X e t) (w : ∀ σ H Q,t' σ H Q -> t σ H Q) : PT X e t':=fun pins s σ H Q I q => h pins s σ H Q I (w σ H Q q)
theorem PW.imp {X : Cx} {e : Expr} {t t' : TT} (h : PW X e t) (w : ∀ σ H Q,t' σ H Q -> t σ H Q) : PW X e t':=fun wh pins s σ H Q I q => h wh pins s σ H Q I (w σ H Q q)
theorem PA.imp {X : Cx} {es : List Expr} {t t' : TA} (h : PA X es t) (w : ∀ σ H Q,t' σ H Q -> t σ H Q) : PA X es t':=fun pos pins s σ H Q I q => h pos pins s σ H Q I (w σ H Q q)
theorem PS.imp {X : Cx} {e : Stmt} {t t' : TS} (h : PS X e t) (w : ∀ D σ H,t' D σ H -> t D σ H) : PS X e t':=fun pins s σ H D I q => h pins s σ H D I (w D σ H q)
theorem PSs.imp {X : Cx} {e : List Stmt} {t t' : TS} (h : PSs X e t) (w : ∀ D σ H,t' D σ H -> t D σ H) : PSs X e t':=fun pins s σ H D I q => h pins s σ H D I (w D σ H q)
theorem PG.imp {X : Cx} {e : Expr} {t t' : TG} (h : PG X e t) (w : ∀ v σ H Q,t' v σ H Q -> t v σ H Q) : PG X e t':=fun pins s σ H v u Q I r q => h pins s σ H v u Q I r (w v σ H Q q)
theorem PGs.imp {X : Cx} {e : List Expr} {t t' : TGs} (h : PGs X e t) (w : ∀ v σ H Q,t' v σ H Q -> t v σ H Q) : PGs X e t':=fun pins s σ H v u Q I r q => h pins s σ H v u Q I r (w v σ H Q q)
theorem OpR.imp {X : Cx} {f : Value -> Value -> Sem Value} {t t' : R2} (h : OpR X f t) (w : ∀ x y H Q,t' x y H Q -> t x y H Q) : OpR X f t':=fun pins s σ H x y v u Q I r1 r2 q => h pins s σ H x y v u Q I r1 r2 (w x y H Q q)
theorem UnR.imp {X : Cx} {f : Value -> Sem Value} {t t' : V -> Hp -> VK -> Prop} (h : UnR X f t) (w : ∀ x H Q,t' x H Q -> t x H Q) : UnR X f t':=fun pins s σ H x v Q I r1 q => h pins s σ H x v Q I r1 (w x H Q q)
theorem CallR.imp {X : Cx} {f : Value} {t t' : List V -> Hp -> VK -> Prop} (h : CallR X f t) (w : ∀ x H Q,t' x H Q -> t x H Q) : CallR X f t':=fun pins s σ H x v Q I r1 q => h pins s σ H x v Q I r1 (w x H Q q)
theorem IxR.imp {X : Cx} {t t' : R2} (h : IxR X t) (w : ∀ x y H Q,t' x y H Q -> t x y H Q) : IxR X t':=fun a b pins s σ H x y v u Q I r1 r2 q => h a b pins s σ H x y v u Q I r1 r2 (w x y H Q q)
theorem MtR.imp {X : Cx} {id : String} {t t' : V -> List V -> Hp -> VK -> Prop} (h : MtR X id t) (w : ∀ x xs H Q,t' x xs H Q -> t x xs H Q) : MtR X id t':=fun pins s σ H x xs v us Q I r1 r2 q => h pins s σ H x xs v us Q I r1 r2 (w x xs H Q q)
section
variable {X : Cx} {pos : Pos}
def tVar3 (i : Nat) : TE3:=fun σ H Q => match σ[i]? with
 | some (some t) => Q t H
 | _ => False
def tC3 (t : T) : TE3:=fun _ H Q => Q t H
theorem v3 (i : Nat) {x : Str} {pos : Pos} (hN : X.N[i]? = some x:=by rfl) (hv : Vis X.env.scope x:=by first | exact Or.inl rfl | exact Or.inr (Or.inl rfl) | exact Or.inr (Or.inr rfl)) (hd : (x == ("__debug__" : Str)) = false:=by decide)
  (hcd : (x == ("__classdict__" : Str)) = false:=by decide) : PE3 X (.Name x pos) (tVar3 i):=by
 refine PE.imp (pv i hN hv hd hcd) ?_
 rintro σ H Q ⟨σ3,H3,Q3,ss,sh,h,k⟩
 unfold tVar3 at h
 split at h
 ·
  rename_i t e
  obtain ⟨v,e',r⟩:=ss.at' i t e
  exact ⟨v,e',k v H t H3 .refl sh r h⟩
 ·
  exact h.elim
theorem c3_int {i : Int} {j : Nat} : PE3 X (.Constant (.int i) j pos) (tC3 (.int i)):=by
 refine PE.imp pe_int ?_
 rintro σ H Q ⟨σ3,H3,Q3,ss,sh,h,k⟩
 exact k _ _ _ H3 .refl sh .ofInt h
theorem c3_bl {b : Bool} {j : Nat} : PE3 X (.Constant (.bool b) j pos) (tC3 (.bl b)):=by
 refine PE.imp pe_bl ?_
 rintro σ H Q ⟨σ3,H3,Q3,ss,sh,h,k⟩
 exact k _ _ _ H3 .refl sh .ofBl h
theorem c3_non {j : Nat} : PE3 X (.Constant .none j pos) (tC3 .non):=by
 refine PE.imp pe_non ?_
 rintro σ H Q ⟨σ3,H3,Q3,ss,sh,h,k⟩
 exact k _ _ _ H3 .refl sh .ofNon h
theorem c3_str {x : Str} {j : Nat} : PE3 X (.Constant (.str x) j pos) (tC3 (.str x)):=by
 refine PE.imp pe_str ?_
 rintro σ H Q ⟨σ3,H3,Q3,ss,sh,h,k⟩
 exact k _ _ _ H3 .refl sh .ofStr h
theorem g3 {x : Str} {t : T} {v : V} {u : Value} (hg : Gl X x) (hm : X.mg x = some u) (r : RelV v u) (rt : ∀ H,Rep X.K H t v) (hd : (x == ("__debug__" : Str)) = false:=by decide) : PE3 X (.Name x pos) (tC3 t):=by
 refine PE.imp (pe_glob hg hm r hd) ?_
 rintro σ H Q ⟨σ3,H3,Q3,ss,sh,h,k⟩
 exact k _ _ _ H3 .refl sh (rt H) h
end
section
variable {X : Cx} {a b c : Expr} {ta tb tc : TE3} {pos : Pos}
def tOp3 (r : R3) (ta tb : TE3) : TE3:=fun σ H Q => ta σ H fun x H1 => tb σ H1 fun y H2 => r x y H2 Q
theorem o3_refine {r : R3} {σ : L2.St} {H : Hp} {Q : VK} (h : lft X.K (tOp3 r ta tb) σ H Q) : tOp (lftR X.K r) (lft X.K ta) (lft X.K tb) σ H Q:=by
 obtain ⟨σ3,H3,Q3,ss,sh,h,k⟩:=h
 exact ⟨σ3,H3,_,ss,sh,h,fun x H1 tx H31 le1 sh1 rx q1 => ⟨σ3,H31,_,ss.mono le1,sh1,q1,fun y H2 ty H32 le2 sh2 ry q2 => ⟨tx,ty,H32,Q3,rx.mono le2,ry,sh2,q2,k.at (le1.trans le2)⟩⟩⟩
theorem e3_op {op : Operator} {r : R3} (ho : OpR3 X (binaryOp op) r) (ha : PE3 X a ta) (hb : PE3 X b tb) : PE3 X (.BinOp a op b pos) (tOp3 r ta tb):=PE.imp (pe_op ho ha hb) fun _ _ _ h => o3_refine h
theorem e3_cmp {op : CmpOp} {r : R3} (ho : OpR3 X (compareOp op) r) (ha : PE3 X a ta) (hb : PE3 X b tb) (hm : behindInMarks op b = false:=by first | exact nomark _ | rfl) : PE3 X (.Compare a [op] [b] pos) (tOp3 r ta tb):=PE.imp (pe_cmpR ho ha hb hm) fun _ _ _ h => o3_refine h
theorem e3_ix {r : R3} (hr : IxR3 X r) (ha : PE3 X a ta) (hb : PE3 X b tb) (hs : PlainIx b:=by exact fun _ _ => rfl) : PE3 X (.Subscript a b pos) (tOp3 r ta tb):=PE.imp (pe_ix hr ha hb hs) fun _ _ _ h => o3_refine h
def tTest3 (t : TE3) : TT3:=fun σ H Q => t σ H fun x H' => match x with
 | .bl k => Q k H'
 | _ => False
theorem t3_cmp {op : CmpOp} {r : R3} (ho : OpR3 X (compareOp op) r) (ha : PE3 X a ta) (hb : PE3 X b tb) (hm : behindInMarks op b = false:=by first | exact nomark _ | rfl) : PT3 X (.Compare a [op] [b] pos) (tTest3 (tOp3 r ta tb)):=by
 refine PT.imp (pt_cmpR ho ha hb hm) ?_
 rintro σ H Q ⟨σ3,H3,Q3,ss,sh,h,k⟩
 refine o3_refine (X:=X) ⟨σ3,H3,_,ss,sh,h,fun v H' t H3' le sh' r q => ?_⟩
 cases t with
 | bl b => exact ⟨b,r.bl,k b H' H3' le sh' q⟩
 | _ => exact q.elim
def tChain3 (r r' : R3) (ta tb tc : TE3) : TE3:=fun σ H Q => ta σ H fun x H1 => tb σ H1 fun y H2 => r x y H2 fun z H3 => match z with
 | .bl k => if k = true then tc σ H3 fun w H4 => r' y w H4 Q else Q (.bl false) H3
 | _ => False
end
end L3
namespace L3
open PySem PySem.Spec PyProof.Rows L2
section
variable {X : Cx} {a b c : Expr} {ta tb tc : TE3} {tA tB' : TT3} {pos : Pos} {rest : List Expr}
theorem t3_val (h : PE3 X a ta) (he : ∀ whole,isTrue a X.env whole = (do let v <- whole; standAt a.pos; holding [v] (truthy v)):=by intro _; rfl) : PT3 X a (tTest3 ta):=by
 refine PT.imp (pt_val h he) ?_
 rintro σ H Q ⟨σ3,H3,Q3,ss,sh,h,k⟩
 refine ⟨σ3,H3,_,ss,sh,h,fun v H' t H3' le sh' r q => ?_⟩
 cases t with
 | bl b => exact ⟨b,r.bl,k b H' H3' le sh' q⟩
 | _ => exact q.elim
def tAnd3 (t u : TT3) : TT3:=fun σ H Q => t σ H fun c H1 => if c = true then u σ H1 Q else Q false H1
def tOr3 (t u : TT3) : TT3:=fun σ H Q => t σ H fun c H1 => if c = true then Q true H1 else u σ H1 Q
def tNot3 (t : TT3) : TT3:=fun σ H Q => t σ H fun c H1 => Q (!c) H1
theorem PW3.pt (h : PW3 X a tA) : PT3 X a tA:=PW.pt h
theorem w3_and1 (ha : PT3 X a tA) : PW3 X (.BoolOp .And [a] pos) tA:=pw_and1 ha
theorem w3_or1 (ha : PT3 X a tA) : PW3 X (.BoolOp .Or [a] pos) tA:=pw_or1 ha
theorem w3_and (ha : PT3 X a tA) (hb : PW3 X (.BoolOp .And (b :: rest) pos) tB') : PW3 X (.BoolOp .And (a :: b :: rest) pos) (tAnd3 tA tB'):=by
 refine PW.imp (pw_and ha hb) ?_
 rintro σ H Q ⟨σ3,H3,Q3,ss,sh,h,k⟩
 refine ⟨σ3,H3,_,ss,sh,h,fun b H' H3' le sh' q => ?_⟩
 cases b with
 | true => exact ⟨σ3,H3',_,ss.mono le,sh',q,fun b H'' H3'' le' sh'' q' => k b H'' H3'' (le.trans le') sh'' q'⟩
 | false => exact k false H' H3' le sh' q
theorem w3_or (ha : PT3 X a tA) (hb : PW3 X (.BoolOp .Or (b :: rest) pos) tB') : PW3 X (.BoolOp .Or (a :: b :: rest) pos) (tOr3 tA tB'):=by
 refine PW.imp (pw_or ha hb) ?_
 rintro σ H Q ⟨σ3,H3,Q3,ss,sh,h,k⟩
 refine ⟨σ3,H3,_,ss,sh,h,fun b H' H3' le sh' q => ?_⟩
 cases b with
 | true => exact k true H' H3' le sh' q
 | false => exact ⟨σ3,H3',_,ss.mono le,sh',q,fun b H'' H3'' le' sh'' q' => k b H'' H3'' (le.trans le') sh'' q'⟩
theorem t3_not (ha : PT3 X a tA) : PT3 X (.UnaryOp .Not a pos) (tNot3 tA):=by
 refine PT.imp (pt_not ha) ?_
 rintro σ H Q ⟨σ3,H3,Q3,ss,sh,h,k⟩
 exact ⟨σ3,H3,_,ss,sh,h,fun b H' H3' le sh' q => k _ H' H3' le sh' q⟩
def tAndV3 (ta tb : TE3) : TE3:=fun σ H Q => ta σ H fun x H1 => match x with
 | .bl c => if c = true then tb σ H1 Q else Q (.bl false) H1
 | _ => False
def tOrV3 (ta tb : TE3) : TE3:=fun σ H Q => ta σ H fun x H1 => match x with
 | .bl c => if c = true then Q (.bl true) H1 else tb σ H1 Q
 | _ => False
def tNotV3 (ta : TE3) : TE3:=fun σ H Q => ta σ H fun x H1 => match x with
 | .bl c => Q (.bl (!c)) H1
 | _ => False
theorem e3_one {op : PySem.BoolOp} {t : TE3} (h : PE3 X a t) : PE3 X (.BoolOp op [a] pos) t:=pe_one h
theorem e3_and (ha : PE3 X a ta) (hb : PE3 X (.BoolOp .And (b :: rest) pos) tb) : PE3 X (.BoolOp .And (a :: b :: rest) pos) (tAndV3 ta tb):=by
 refine PE.imp (pe_and ha hb) ?_
 rintro σ H Q ⟨σ3,H3,Q3,ss,sh,h,k⟩
 refine ⟨σ3,H3,_,ss,sh,h,fun v H' t H3' le sh' r q => ?_⟩
 cases t with
 | bl b =>
  refine ⟨b,r.bl,?_⟩
  cases b with
  | true => exact ⟨σ3,H3',_,ss.mono le,sh',q,k.at le⟩
  | false => exact k _ H' _ H3' le sh' .ofBl q
 | _ => exact q.elim
theorem e3_or (ha : PE3 X a ta) (hb : PE3 X (.BoolOp .Or (b :: rest) pos) tb) : PE3 X (.BoolOp .Or (a :: b :: rest) pos) (tOrV3 ta tb):=by
 refine PE.imp (pe_or ha hb) ?_
 rintro σ H Q ⟨σ3,H3,Q3,ss,sh,h,k⟩
 refine ⟨σ3,H3,_,ss,sh,h,fun v H' t H3' le sh' r q => ?_⟩
 cases t with
 | bl b =>
  refine ⟨b,r.bl,?_⟩
  cases b with
  | true => exact k _ H' _ H3' le sh' .ofBl q
  | false => exact ⟨σ3,H3',_,ss.mono le,sh',q,k.at le⟩
 | _ => exact q.elim
theorem e3_not (ha : PE3 X a ta) : PE3 X (.UnaryOp .Not a pos) (tNotV3 ta):=by
 refine PE.imp (pe_not ha) ?_
 rintro σ H Q ⟨σ3,H3,Q3,ss,sh,h,k⟩
 refine ⟨σ3,H3,_,ss,sh,h,fun v H' t H3' le sh' r q => ?_⟩
 cases t with
 | bl b => exact ⟨b,r.bl,k _ H' _ H3' le sh' .ofBl q⟩
 | _ => exact q.elim
def tIf3 (t : TT3) (ta tb : TE3) : TE3:=fun σ H Q => t σ H fun c H1 => if c = true then ta σ H1 Q else tb σ H1 Q
end
section
variable {X : Cx} {e : Expr} {es : List Expr} {te : TE3} {t : TA3} {pos : Pos}
def tNil3 : TA3:=fun _ H Q => Q [] H
def tCons3 (ta : TE3) (tr : TA3) : TA3:=fun σ H Q => ta σ H fun x H1 => tr σ H1 fun xs H2 => Q (x :: xs) H2
theorem a3_nil : PA3 X [] tNil3:=by
 refine PA.imp pa_nil ?_
 rintro σ H Q ⟨σ3,H3,Q3,ss,sh,h,k⟩
 exact k _ _ _ _ .refl sh .nil h
theorem a3_cons (ha : PE3 X e te) (hr : PA3 X es t) (hs : starEach (e :: es) X.env = (false,eval e X.env) :: starEach es X.env:=by rfl) : PA3 X (e :: es) (tCons3 te t):=by
 refine PA.imp (pa_cons ha hr hs) ?_
 rintro σ H Q ⟨σ3,H3,Q3,ss,sh,h,k⟩
 exact ⟨σ3,H3,_,ss,sh,h,fun v H' t H3' le sh' r q => ⟨σ3,H3',_,ss.mono le,sh',q,fun vs H'' ts H3'' le' sh'' rs q' => k _ _ _ _ (le.trans le') sh'' (.cons (r.mono le') rs) q'⟩⟩
def tTup3 (t : TA3) : TE3:=fun σ H Q => t σ H fun xs H1 => xs.length <= sizeLine /\ Q (.tup xs) H1
def tLst3 (t : TA3) : TE3:=fun σ H Q => t σ H fun xs H1 => xs.length <= sizeLine /\ ∀ p,H1 p = none -> Q (.ref p) (up3 H1 p (.lst xs))
theorem SimH.newTup {K : PySem.W.Frag} {H : Hp} {H3 : Hp3} {ts : List T} {xs : List V} {p : Addr} (hp : H p = none) (r : Reps K H ts xs) : Rep K (upd H p (.tup xs)) (.tup ts) (.ref p) :=
 .ofTup (.of upd_same) (r.mono (upd_tupLe hp))
theorem SimH.newLst {K : PySem.W.Frag} {H : Hp} {H3 : Hp3} {ts : List T} {xs : List V} {p : Addr} (s : SimH K H3 H) (hp : H p = none) (r : Reps K H ts xs) : SimH K (up3 H3 p (.lst ts)) (upd H p (.lst xs)):=fun a o e => by
 by_cases ha : a = p
 ·
  subst ha
  rw [up3_same] at e; cases e
  exact ⟨xs,upd_same,r.mono (upd_tupLe hp)⟩
 ·
  rw [up3_ne ha] at e
  exact s.new hp a o e
theorem e3_tup {x1} (h : PA3 X es t) : PE3 X (.Tuple es x1 pos) (tTup3 t):=by
 refine PE.imp (pe_tup h) ?_
 rintro σ H Q ⟨σ3,H3,Q3,ss,sh,h,k⟩
 refine ⟨σ3,H3,_,ss,sh,h,fun vs H' ts H3' le sh' r q => ⟨by rw [<- r.length]; exact q.1,fun p hp => ?_⟩⟩
 exact k _ _ _ H3' (le.trans (upd_tupLe hp)) (sh'.new hp) (SimH.newTup (H3:=H3') hp r) q.2
theorem e3_lst (h : PA3 X es t) : PE3 X (.List es pos) (tLst3 t):=by
 refine PE.imp (pe_lst h) ?_
 rintro σ H Q ⟨σ3,H3,Q3,ss,sh,h,k⟩
 refine ⟨σ3,H3,_,ss,sh,h,fun vs H' ts H3' le sh' r q => ⟨by rw [<- r.length]; exact q.1,fun p hp => ?_⟩⟩
 exact k _ _ _ _ (le.trans (upd_tupLe hp)) (sh'.newLst hp r) .ofRef (q.2 p (sh'.fresh hp))
end
section
variable {X : Cx} {st : Stmt} {rest : List Stmt} {e c : Expr} {te : TE3} {tc : TT3} {t u : TS3} {pos : Pos}
def tNext3 : TS3:=fun D σ H => D.nx σ H
def tSeq3 (t u : TS3) : TS3:=fun D σ H => t { D with nx:=u D } σ H
theorem ss3_nil : PSs3 X [] tNext3:=by
 refine PSs.imp pss_nil ?_
 rintro D σ H ⟨σ3,H3,D3,ss,sh,h,k1,_⟩
 exact k1 _ _ _ _ .refl ss sh h
theorem ss3_cons (h1 : PS3 X st t) (h2 : PSs3 X rest u) : PSs3 X (st :: rest) (tSeq3 t u):=by
 refine PSs.imp (pss_cons h1 h2) ?_
 rintro D σ H ⟨σ3,H3,D3,ss,sh,h,k1,k2,k3,k4⟩
 exact ⟨σ3,H3,_,ss,sh,h,fun σ' H' σ3' H3' le ss' sh' q => ⟨σ3',H3',D3,ss',sh',q,k1.at le,k2.at le,k3.at le,k4.at le⟩,k2,k3,k4⟩
theorem ss3_one (h1 : PS3 X st t) : PSs3 X [st] t:=pss_one h1
def tDrop3 (te : TE3) : TS3:=fun D σ H => te σ H fun _ H1 => D.nx σ H1
theorem s3_expr (he : PE3 X e te) (hs : swapsWith e none pos.line X.env = pure false:=by rfl) : PS3 X (.Expr e pos) (tDrop3 te):=by
 refine PS.imp (ps_expr he hs) ?_
 rintro D σ H ⟨σ3,H3,D3,ss,sh,h,k1,_⟩
 exact ⟨σ3,H3,_,ss,sh,h,fun v H' t H3' le sh' r q => k1 _ _ _ _ le (ss.mono le) sh' q⟩
def tRet3 (te : TE3) : TS3:=fun D σ H => te σ H D.rt
theorem s3_ret (he : PE3 X e te) : PS3 X (.Return (some e) pos) (tRet3 te):=by
 refine PS.imp (ps_ret he) ?_
 rintro D σ H ⟨σ3,H3,D3,ss,sh,h,k1,k2,_⟩
 exact ⟨σ3,H3,_,ss,sh,h,k2⟩
def tRetN3 : TS3:=fun D _ H => D.rt .non H
def tIfS3 (c : TT3) (t u : TS3) : TS3:=fun D σ H => c σ H fun b H1 => if b = true then t D σ H1 else u D σ H1
theorem s3_if {a b : List Stmt} (hc : PT3 X c tc) (ha : PSs3 X a t) (hb : PSs3 X b u) : PS3 X (.If c a b pos) (tIfS3 tc t u):=by
 refine PS.imp (ps_if hc ha hb) ?_
 rintro D σ H ⟨σ3,H3,D3,ss,sh,h,k1,k2,k3,k4⟩
 refine ⟨σ3,H3,_,ss,sh,h,fun b H' H3' le sh' q => ?_⟩
 cases b with
 | true => exact ⟨σ3,H3',D3,ss.mono le,sh',q,k1.at le,k2.at le,k3.at le,k4.at le⟩
 | false => exact ⟨σ3,H3',D3,ss.mono le,sh',q,k1.at le,k2.at le,k3.at le,k4.at le⟩
def gName3 (i : Nat) : TG3:=fun v σ H Q => Q (σ.set i (some v)) H
theorem g3_name {i : Nat} {x : Str} (hN : X.N.Nodup) (hi : X.N[i]? = some x:=by rfl) (hx : Loc X.env.scope x:=by first | exact Or.inl rfl | exact Or.inr rfl) (hf : X.fn x = true \/ X.env.scope.names.lookup x = some .local:=by first | exact .inl rfl | exact .inr rfl | assumption) : PG3 X (.Name x pos) (gName3 i):=by
 refine PG.imp (pg_name hN hi hx hf) ?_
 rintro v σ H Q ⟨t,σ3,H3,Q3,r,ss,sh,h,k⟩
 exact k _ _ _ _ .refl (ss.set r) sh h
def gNil3 : TGs3:=fun ts σ H Q => match ts with
 | [] => Q σ H
 | _ => False
def gCons3 (t : TG3) (u : TGs3) : TGs3:=fun ts σ H Q => match ts with
 | x :: r => t x σ H fun σ' H' => u r σ' H' Q
 | [] => False
theorem gs3_nil : PGs3 X [] gNil3:=by
 refine PGs.imp pgs_nil ?_
 rintro vs σ H Q ⟨ts,σ3,H3,Q3,r,ss,sh,h,k⟩
 cases ts with
 | nil => exact ⟨r.inv0,k _ _ _ _ .refl ss sh h⟩
 | cons _ _ => exact h.elim
theorem gs3_cons {e : Expr} {es : List Expr} {t : TG3} {u : TGs3} (h1 : PG3 X e t) (h2 : PGs3 X es u)
  (hs : (assignEach (e :: es) X.env).map (·.2) = assign e X.env :: (assignEach es X.env).map (·.2):=by rfl) : PGs3 X (e :: es) (gCons3 t u):=by
 refine PGs.imp (pgs_cons h1 h2 hs) ?_
 rintro vs σ H Q ⟨ts,σ3,H3,Q3,r,ss,sh,h,k⟩
 cases ts with
 | nil => exact h.elim
 | cons x ts =>
  obtain ⟨v,vr,rfl,rv,rr⟩:=r.inv
  exact ⟨v,vr,rfl,x,σ3,H3,_,rv,ss,sh,h,fun σ' H' σ3' H3' le ss' sh' q => ⟨ts,σ3',H3',Q3,rr.mono le,ss',sh',q,k.at le⟩⟩
def gTup3 (n : Nat) (g : TGs3) : TG3:=fun t σ H Q => match t with
 | .tup ts => ts.length = n /\ g ts σ H Q
 | _ => False
theorem g3_tup {es : List Expr} {k : Nat} {t : TGs3} {n : Nat} (hc : X.calm = true) (h : PGs3 X es t)
  (hn : (assignEach es X.env).length = n:=by rfl) (hst : (assignEach es X.env).findIdx? (·.1) = none:=by rfl) : PG3 X (.Tuple es k pos) (gTup3 n t):=by
 refine PG.imp (pg_tup hc h hn hst) ?_
 rintro v σ H Q ⟨t,σ3,H3,Q3,r,ss,sh,h,k⟩
 cases t with
 | tup ts =>
  obtain ⟨a,xs,rfl,s,rs⟩:=r.tup
  exact ⟨a,xs,rfl,s,by rw [<- rs.length]; exact h.1,ts,σ3,H3,Q3,rs,ss,sh,h.2,k⟩
 | _ => exact h.elim
def tAsg3 (te : TE3) (g : TG3) : TS3:=fun D σ H => te σ H fun x H1 => g x σ H1 D.nx
theorem s3_asg {tg e : Expr} {te : TE3} {g : TG3} (he : PE3 X e te) (hg : PG3 X tg g) (hs : swapsWithSole [tg] e pos.line X.env = pure false:=by rfl) (hw : swappedStores [tg] e X.env = pure none:=by rfl)
  (h1 : (assignEach [tg] X.env).map (·.2) = [assign tg X.env]:=by rfl) : PS3 X (.Assign [tg] e pos) (tAsg3 te g):=by
 refine PS.imp (ps_asg he hg hs hw h1) ?_
 rintro D σ H ⟨σ3,H3,D3,ss,sh,h,k1,_⟩
 exact ⟨σ3,H3,_,ss,sh,h,fun v H' t H3' le sh' r q => ⟨t,σ3,H3',_,r,ss.mono le,sh',q,k1.at le⟩⟩
theorem s3_set {i : Nat} {x : Str} {e : Expr} {te : TE3} {pos' : Pos} (hN : X.N.Nodup) (he : PE3 X e te) (hi : X.N[i]? = some x:=by rfl) (hx : Loc X.env.scope x:=by first | exact Or.inl rfl | exact Or.inr rfl)
  (hs : swapsWith e (some (.Name x pos')) pos.line X.env = pure false:=by rfl) (hf : X.fn x = true \/ X.env.scope.names.lookup x = some .local:=by first | exact .inl rfl | exact .inr rfl | assumption) :
  PS3 X (.Assign [.Name x pos'] e pos) (tAsg3 te (gName3 i)):=by
 refine PS.imp (ps_set hN hi hx he hs hf) ?_
 rintro D σ H ⟨σ3,H3,D3,ss,sh,h,k1,_⟩
 exact ⟨σ3,H3,_,ss,sh,h,fun v H' t H3' le sh' r q => k1 _ _ _ _ le ((ss.mono le).set r) sh' q⟩
end
abbrev TSet3:=T -> T -> T -> Hp3 -> (Hp3 -> Prop) -> Prop
def lftSet (K : PySem.W.Frag) (t3 : TSet3) : TSet:=fun o i v H Q => ∃ to ti tv H3 Q3,Rep K H to o /\ Rep K H ti i /\ Rep K H tv v /\ SimH K H3 H /\ t3 to ti tv H3 Q3 /\ ∀ H' H3',TupLe K H H' -> SimH K H3' H' -> Q3 H3' -> Q H'
def PSet3 (X : Cx) (t : TSet3) : Prop:=PSet X (lftSet X.K t)
theorem PSet.imp {X : Cx} {t t' : TSet} (h : PSet X t) (w : ∀ o i v H Q,t' o i v H Q -> t o i v H Q) : PSet X t':=fun pins s σ H o i v ov iv u Q I r1 r2 r3 q => h pins s σ H o i v ov iv u Q I r1 r2 r3 (w o i v H Q q)
section
variable {X : Cx} {pos : Pos}
def gSub3 (to ti : TE3) (t : TSet3) : TG3:=fun v σ H Q => to σ H fun o H1 => ti σ H1 fun i H2 => t o i v H2 fun H3 => Q σ H3
theorem g3_sub {o i : Expr} {to ti : TE3} {t : TSet3} (ho : PE3 X o to) (hi : PE3 X i ti) (hs : PSet3 X t)
  (ha : ∀ v,assign (.Subscript o i pos) X.env v = (do
   let ov <- holding [v] (eval o X.env)
   let iv <- holding [v,ov] (eval i X.env)
   standAt pos
   holding [v,ov,iv] (setItem ov iv v)
   release [v,ov,iv] []):=by intro _; rfl) : PG3 X (.Subscript o i pos) (gSub3 to ti t):=by
 refine PG.imp (pg_sub ho hi hs ha) ?_
 rintro v σ H Q ⟨t,σ3,H3,Q3,r,ss,sh,h,k⟩
 exact ⟨σ3,H3,_,ss,sh,h,fun o H1 to H31 le1 sh1 ro q1 => ⟨σ3,H31,_,ss.mono le1,sh1,q1,fun i H2 ti H32 le2 sh2 ri q2 => ⟨to,ti,t,H32,_,ro.mono le2,ri,r.mono (le1.trans le2),sh2,q2,fun H' H3' le sh' q => k _ _ _ _ (le1.trans (le2.trans le)) (ss.mono (le1.trans (le2.trans le))) sh' q⟩⟩⟩
end
end L3
namespace L3
open PySem PySem.Spec PyProof.Rows L2
abbrev TI3:=St3 -> Hp3 -> (List T -> (Hp3 -> Prop) -> Hp3 -> Prop) -> Prop
def Walk3 (K : PySem.W.Frag) (J : It) (ts : List T) (still : Hp3 -> Prop) (H : Hp) : Prop:=∀ H' H3',TupLe K H H' -> SimH K H3' H' -> still H3' ->
 (∀ i,ts.length <= i -> J.stop i H') /\ ∀ i t,ts[i]? = some t -> J.go i H' /\ ∀ x H'',J.yld i H' x H'' -> TupLe K H' H'' /\ SimH K H3' H'' /\ Rep K H'' t x
def lftI (K : PySem.W.Frag) (t3 : TI3) : TI:=fun σ H R => ∃ σ3 H3 R3,SimS K H σ3 σ /\ SimH K H3 H /\ t3 σ3 H3 R3 /\ ∀ J ts still H' H3',TupLe K H H' -> SimH K H3' H' -> Walk3 K J ts still H' -> R3 ts still H3' -> R J H'
def PI3 (X : Cx) (tg iter : Expr) (t : TI3) : Prop:=PI X tg iter (lftI X.K t)
theorem PI.imp {X : Cx} {tg e : Expr} {t t' : TI} (h : PI X tg e t) (w : ∀ σ H R,t' σ H R -> t σ H R) : PI X tg e t':=fun pins s σ H R I q => h pins s σ H R I (w σ H R q)
def still0 : Hp3 -> Prop:=fun _ => True
def stillL (a : Addr) (ts : List T) : Hp3 -> Prop:=fun H => H a = some (.lst ts) \/ H a = some (.rol ts)
theorem SimH.sqL {K : PySem.W.Frag} {H : Hp} {H3 : Hp3} {a : Addr} {ts : List T} (s : SimH K H3 H) (h : stillL a ts H3) : ∃ xs,SqL K H a xs /\ Reps K H ts xs:=by
 rcases h with h | h
 ·
  obtain ⟨xs,e,r⟩:=s a _ h
  exact ⟨xs,.of e,r⟩
 ·
  obtain ⟨xs,e,r⟩:=s a _ h
  exact ⟨xs,.inl e,r⟩
section
variable {X : Cx} {tg l : Expr} {tl : TE3} {pos p : Pos}
def iList3 (tl : TE3) : TI3:=fun σ H R => tl σ H fun x H1 => match x with
 | .ref a => match H1 a with
  | some (.lst ts) => R ts (stillL a ts) H1
  | some (.rol ts) => R ts (stillL a ts) H1
  | _ => False
 | _ => False
theorem walk_list {K : PySem.W.Frag} {H : Hp} {a : Addr} {ts : List T} : Walk3 K (Itl K a) ts (stillL a ts) H:=fun H' H3' le sh st => by
 obtain ⟨xs,sq,rs⟩:=sh.sqL st
 have hl:=rs.length
 refine ⟨fun i hi => ⟨xs,sq,by omega⟩,fun i t e => ?_⟩
 obtain ⟨v,ev,rv⟩:=rs.get e
 refine ⟨⟨xs,v,sq,ev⟩,fun x H'' y => ?_⟩
 obtain ⟨e1,y⟩:=y
 subst e1
 have:=y xs sq
 rw [ev] at this; cases this
 exact ⟨.refl,sh,rv⟩
theorem i3_list (hl : PE3 X l tl) : PI3 X tg l (iList3 tl):=by
 refine PI.imp (pi_list hl) ?_
 rintro σ H R ⟨σ3,H3,R3,ss,sh,h,k⟩
 refine ⟨σ3,H3,_,ss,sh,h,fun v H' t H3' le sh' r q => ?_⟩
 cases t with
 | ref a =>
  have q' : (match H3' a with
   | some (.lst ts) => R3 ts (stillL a ts) H3'
   | some (.rol ts) => R3 ts (stillL a ts) H3'
   | _ => False):=q
  split at q'
  ·
   rename_i ts e
   obtain ⟨xs,sq,rs⟩:=sh'.sqL (.inl e)
   exact ⟨a,r.ref,⟨xs,sq⟩,k _ ts (stillL a ts) H' H3' le sh' walk_list q'⟩
  ·
   rename_i ts e
   obtain ⟨xs,sq,rs⟩:=sh'.sqL (.inr e)
   exact ⟨a,r.ref,⟨xs,sq⟩,k _ ts (stillL a ts) H' H3' le sh' walk_list q'⟩
  ·
   exact q'.elim
 | _ => exact q.elim
def iTup3 (tl : TE3) : TI3:=fun σ H R => tl σ H fun x H1 => match x with
 | .tup ts => R ts still0 H1
 | _ => False
theorem walk_tup {K : PySem.W.Frag} {H : Hp} {a : Addr} {ts : List T} {xs : List V} (sq : SqT K H a xs) (rs : Reps K H ts xs) : Walk3 K (Itt K a) ts still0 H:=fun H' H3' le sh st => by
 have hl:=rs.length
 refine ⟨fun i hi => ⟨xs,le _ _ sq,by omega⟩,fun i t e => ?_⟩
 obtain ⟨v,ev,rv⟩:=rs.get e
 refine ⟨⟨xs,v,le _ _ sq,ev⟩,fun x H'' y => ?_⟩
 obtain ⟨e1,y⟩:=y
 subst e1
 have:=y xs (le _ _ sq)
 rw [ev] at this; cases this
 exact ⟨.refl,sh,rv.mono le⟩
theorem i3_tup (hl : PE3 X l tl) : PI3 X tg l (iTup3 tl):=by
 refine PI.imp (pi_tup hl) ?_
 rintro σ H R ⟨σ3,H3,R3,ss,sh,h,k⟩
 refine ⟨σ3,H3,_,ss,sh,h,fun v H' t H3' le sh' r q => ?_⟩
 cases t with
 | tup ts =>
  obtain ⟨a,xs,e,sq,rs⟩:=r.tup
  exact ⟨a,e,⟨xs,sq⟩,k _ ts still0 H' H3' le sh' (walk_tup sq rs) q⟩
 | _ => exact q.elim
noncomputable def rng3 (lo : Int) (n : Nat) : List T:=(List.range n).map fun (i : Nat) => T.int (lo + i)
theorem walk_rng {K : PySem.W.Frag} {H : Hp} {lo : Int} {n : Nat} : Walk3 K (Itr lo n) (rng3 lo n) still0 H:=fun H' H3' le sh st => by
 refine ⟨fun i hi => by unfold rng3 at hi; simp at hi; exact hi,fun i t e => ?_⟩
 unfold rng3 at e
 rw [List.getElem?_map] at e
 by_cases hi : i < n
 ·
  rw [List.getElem?_range hi] at e
  cases e
  refine ⟨hi,fun x H'' y => ?_⟩
  obtain ⟨e1,e2⟩:=y
  subst e1; subst e2
  exact ⟨.refl,sh,.ofInt⟩
 ·
  rw [List.getElem?_eq_none (by simpa using hi)] at e; cases e
def iRng3 (ta : TA3) : TI3:=fun σ H R => ta σ H fun vs H1 => match vs with
 | [.int j] => -(2 ^ 62) <= j /\ j < 2 ^ 62 /\ R (rng3 0 j.toNat) still0 H1
 | [.int i,.int j] => (-(2 ^ 62) <= i /\ i < 2 ^ 62 /\ -(2 ^ 62) <= j /\ j < 2 ^ 62) /\ R (rng3 i (j - i).toNat) still0 H1
 | _ => False
theorem i3_range1 {a : Expr} {ta : TA3} (hg : Gl X "range") (hm : X.mg "range" = none) (ha : PA3 X [a] ta) (hs : starEach [a] X.env = [(false,eval a X.env)]:=by rfl) : PI3 X tg (.Call (.Name "range" p) [a] [] pos) (iRng3 (fun σ H Q => ta σ H fun vs H1 => vs.length = 1 /\ Q vs H1)):=by
 refine PI.imp (pi_range1 hg hm ha hs) ?_
 rintro σ H R ⟨σ3,H3,R3,ss,sh,h,k⟩
 refine ⟨σ3,H3,_,ss,sh,h,fun vs H' ts H3' le sh' r q => ?_⟩
 obtain ⟨hl,q⟩:=q
 cases ts with
 | nil => cases hl
 | cons t ts =>
  cases ts with
  | cons _ _ => simp at hl
  | nil =>
   cases t with
   | int j =>
    obtain ⟨v,_,rfl,rv,r0⟩:=r.inv
    rw [r0.inv0,rv.int]
    exact ⟨j,rfl,q.1,q.2.1,k _ _ _ H' H3' le sh' walk_rng q.2.2⟩
   | _ => exact q.elim
theorem i3_range2 {a b : Expr} {ta : TA3} (hg : Gl X "range") (hm : X.mg "range" = none) (ha : PA3 X [a,b] ta) (hs : starEach [a,b] X.env = [(false,eval a X.env),(false,eval b X.env)]:=by rfl) (hs2 : starEach [b] X.env = [(false,eval b X.env)]:=by rfl) :
  PI3 X tg (.Call (.Name "range" p) [a,b] [] pos) (iRng3 (fun σ H Q => ta σ H fun vs H1 => vs.length = 2 /\ Q vs H1)):=by
 refine PI.imp (pi_range2 hg hm ha hs hs2) ?_
 rintro σ H R ⟨σ3,H3,R3,ss,sh,h,k⟩
 refine ⟨σ3,H3,_,ss,sh,h,fun vs H' ts H3' le sh' r q => ?_⟩
 obtain ⟨hl,q⟩:=q
 match ts,hl,r with
 | [t1,t2],_,r =>
  obtain ⟨v,_,rfl,rv,r1⟩:=r.inv
  obtain ⟨v2,_,rfl,rv2,r2⟩:=r1.inv
  cases t1 with
  | int i =>
   cases t2 with
   | int j =>
    rw [r2.inv0,rv.int,rv2.int]
    exact ⟨i,j,rfl,q.1,k _ _ _ H' H3' le sh' walk_rng q.2⟩
   | _ => exact q.elim
  | _ => cases t2 <;> exact q.elim
end
def iter3 (g : TG3) (tb : TS3) (D : Ends3) (still : Hp3 -> Prop) : List T -> St3 -> Hp3 -> Prop
 | [],σ,H => still H /\ D.nx σ H
 | t :: r,σ,H => still H /\ g t σ H fun σ2 H2 => tb { D with nx:=iter3 g tb D still r,ct:=iter3 g tb D still r,bk:=D.nx } σ2 H2
theorem iter3.st {g : TG3} {tb : TS3} {D : Ends3} {still : Hp3 -> Prop} {ts : List T} {σ : St3} {H : Hp3} (h : iter3 g tb D still ts σ H) : still H:=by
 cases ts with
 | nil => exact h.1
 | cons t r => exact h.1
def tFor3 (wi : TI3) (g : TG3) (tb : TS3) : TS3:=fun D σ H => wi σ H fun ts still H1 => iter3 g tb D still ts σ H1
section
variable {X : Cx} {tg iter : Expr} {pos : Pos}
theorem s3_for {body : List Stmt} {wi : TI3} {g : TG3} {tb : TS3} (hp : PassesOwn (model X.prog X.w) X.A X.env X.xe) (hc : X.calm = true) (hi : PI3 X tg iter wi) (hg : PG3 X tg g) (hb : PSs3 X body tb)
  (hs : ∀ x,foldedSetIterable iter X.env x = pure x:=by intro _; rfl) : PS3 X (.For tg iter body [] pos) (tFor3 wi g tb):=by
 refine PS.imp (ps_for hp hc hi hg hb hs) ?_
 rintro D σ H ⟨σ3,H3,D3,ss,sh,h,k1,k2,k3,k4⟩
 refine ⟨σ3,H3,_,ss,sh,h,fun J ts still H1 H31 le sh1 wk q => ?_⟩
 refine ⟨fun i m σ H => ∃ σ3 H3,TupLe X.K H1 H /\ SimS X.K H σ3 σ /\ SimH X.K H3 H /\ m = ts.length - i /\ i <= ts.length /\ iter3 g tb D3 still (ts.drop i) σ3 H3,⟨ts.length,σ3,H31,.refl,ss.mono le,sh1,rfl,Nat.zero_le _,by simpa using q⟩,?_⟩
 rintro i m σ H ⟨σ4,H4,le4,ss4,sh4,rfl,hi,it⟩
 have w:=wk H H4 le4 sh4 it.st
 by_cases hlt : i < ts.length
 ·
  have e:=List.getElem?_eq_getElem hlt
  have ed : ts.drop i = ts[i] :: ts.drop (i + 1):=List.drop_eq_getElem_cons hlt
  rw [ed] at it
  obtain ⟨st,it⟩:=it
  obtain ⟨go,yl⟩:=w.2 i _ e
  refine .inr ⟨go,fun σ' H' => ∃ σ3 H3,TupLe X.K H1 H' /\ SimS X.K H' σ3 σ' /\ SimH X.K H3 H' /\ iter3 g tb D3 still (ts.drop (i + 1)) σ3 H3,fun σ' H' ⟨s5,h5,a,b,c,d⟩ => ⟨ts.length - (i + 1),by omega,s5,h5,a,b,c,rfl,hlt,d⟩,fun x H' y => ?_⟩
  obtain ⟨le',sh',rx⟩:=yl x H' y
  refine ⟨ts[i],σ4,H4,_,rx,ss4.mono le',sh',it,fun σ2 H2 σ32 H32 le2 ss2 sh2 q2 => ?_⟩
  have all : TupLe X.K H1 H2:=le4.trans (le'.trans le2)
  have nx : ∀ (B : TupLe X.K H1 H2),KS3 X.K H2 (iter3 g tb D3 still (ts.drop (i + 1))) (fun σ' H' => ∃ σ3 H3,TupLe X.K H1 H' /\ SimS X.K H' σ3 σ' /\ SimH X.K H3 H' /\ iter3 g tb D3 still (ts.drop (i + 1)) σ3 H3) :=
   fun B σ' H' σ3' H3' l s h q => ⟨σ3',H3',B.trans l,s,h,q⟩
  exact ⟨σ32,H32,_,ss2,sh2,q2,nx all,k2.at (le.trans all),k1.at (le.trans all),nx all⟩
 ·
  have e : i = ts.length:=by omega
  subst e
  rw [List.drop_length] at it
  exact .inl ⟨w.1 _ (Nat.le_refl _),k1 _ _ _ _ (le.trans le4) ss4 sh4 it.2⟩
def tWhile3 (c : TT3) (tb : TS3) : TS3:=fun D σ H => ∃ W : Nat -> St3 -> Hp3 -> Prop,(∃ m,W m σ H) /\ ∀ m σ H,W m σ H ->
 c σ H fun b H1 => if b = true then tb { D with nx:=fun σ' H' => ∃ m',m' < m /\ W m' σ' H',ct:=fun σ' H' => ∃ m',m' < m /\ W m' σ' H',bk:=D.nx } σ H1 else D.nx σ H1
theorem s3_while {c : Expr} {body : List Stmt} {tc : TT3} {tb : TS3} (hp : PassesOwn (model X.prog X.w) X.A X.env X.xe) (hc : PT3 X c tc) (hb : PSs3 X body tb) : PS3 X (.While c body [] pos) (tWhile3 tc tb):=by
 refine PS.imp (ps_while hp hc hb) ?_
 rintro D σ H ⟨σ3,H3,D3,ss,sh,⟨W,⟨m0,w0⟩,turn⟩,k1,k2,k3,k4⟩
 refine ⟨fun m σ' H' => ∃ σ3 H3,TupLe X.K H H' /\ SimS X.K H' σ3 σ' /\ SimH X.K H3 H' /\ W m σ3 H3,⟨m0,σ3,H3,.refl,ss,sh,w0⟩,?_⟩
 rintro m σ1 H1 ⟨σ4,H4,le4,ss4,sh4,w4⟩
 refine ⟨σ4,H4,_,ss4,sh4,turn m σ4 H4 w4,fun b H2 H5 le5 sh5 q => ?_⟩
 cases b with
 | true =>
  rw [if_pos rfl] at q ⊢
  have nx : KS3 X.K H2 (fun σ' H' => ∃ m',m' < m /\ W m' σ' H') (fun σ' H' => ∃ m',m' < m /\ ∃ σ3 H3,TupLe X.K H H' /\ SimS X.K H' σ3 σ' /\ SimH X.K H3 H' /\ W m' σ3 H3) :=
   fun σ' H' σ3' H3' l s h ⟨m',hm,w⟩ => ⟨m',hm,σ3',H3',le4.trans (le5.trans l),s,h,w⟩
  exact ⟨_,fun σ' H' h => h,σ4,H5,_,ss4.mono le5,sh5,q,nx,k2.at (le4.trans le5),k1.at (le4.trans le5),nx⟩
 | false =>
  rw [if_neg Bool.false_ne_true] at q ⊢
  exact k1 _ _ _ _ (le4.trans le5) (ss4.mono le5) sh5 q
end
def PIf3 (X : Cx) (ifs : List Expr) (t : TT3) : Prop:=PIf X ifs (lftT X.K t)
def tYes3 : TT3:=fun _ H Q => Q true H
theorem if3_nil {X : Cx} : PIf3 X [] tYes3:=fun pins s σ H Q I ⟨σ3,H3,Q3,ss,sh,h,k⟩ => pif_nil pins s σ H Q I (k _ _ _ .refl sh h)
theorem if3_one {X : Cx} {c : Expr} {t : TT3} (h : PT3 X c t) : PIf3 X [c] t:=pif_one h
noncomputable def cap3 (nt : Nat) (cap : List Nat) (σ : St3) : St3:=List.replicate nt none ++ cap.map fun j => (σ[j]?).getD none
theorem cap_sim {K : PySem.W.Frag} {H : Hp} {σ3 : St3} {σ : L2.St} {nt : Nat} {cap : List Nat} (s : SimS K H σ3 σ) : SimS K H (cap3 nt cap σ3) (capS nt cap σ):=by
 refine ⟨by simp [cap3,capS],fun i t e => ?_⟩
 unfold cap3 at e
 unfold capS
 by_cases hi : i < nt
 ·
  rw [List.getElem?_append_left (by simpa using hi),List.getElem?_replicate] at e
  split at e <;> cases e
 ·
  rw [List.getElem?_append_right (by simpa using hi),List.getElem?_map] at e
  rw [List.getElem?_append_right (by simpa using hi),List.getElem?_map]
  simp only [List.length_replicate] at e ⊢
  cases q : cap[i - nt]? with
  | none => rw [q] at e; cases e
  | some j =>
   rw [q] at e
   have e' : (σ3[j]?).getD none = some t:=Option.some.inj e
   have e2 : σ3[j]? = some (some t):=by
    cases z : σ3[j]? with
    | none => rw [z] at e'; cases e'
    | some y => rw [z] at e'; exact congrArg some e'
   obtain ⟨v,ev,r⟩:=s.at' j t e2
   exact ⟨v,by simp [ev],r⟩
def cIter3 (g : TG3) (tt : TT3) (te : TE3) (still : Hp3 -> Prop) (fin : List T -> Hp3 -> Prop) : List T -> List T -> St3 -> Hp3 -> Prop
 | [],ys,σ,H => still H /\ ys.length <= sizeLine /\ fin ys H
 | t :: r,ys,σ,H => still H /\ g t σ H fun σ2 H2 => tt σ2 H2 fun b H3 => if b = true then te σ2 H3 fun y H4 => ys.length < sizeLine /\ cIter3 g tt te still fin r (ys ++ [y]) σ2 H4 else cIter3 g tt te still fin r ys σ2 H3
theorem cIter3.st {g : TG3} {tt : TT3} {te : TE3} {still : Hp3 -> Prop} {fin : List T -> Hp3 -> Prop} {ts ys : List T} {σ : St3} {H : Hp3} (h : cIter3 g tt te still fin ts ys σ H) : still H:=by
 cases ts with
 | nil => exact h.1
 | cons t r => exact h.1
theorem compW3 {K : PySem.W.Frag} {J : It} {g : TG3} {tt : TT3} {te : TE3} {still : Hp3 -> Prop} {fin3 : List T -> Hp3 -> Prop} {fin : List V -> Hp -> Prop} {ts : List T} {σ3 : St3} {σ : L2.St} {H1 : Hp} {H31 : Hp3}
  (wk : Walk3 K J ts still H1) (ss : SimS K H1 σ3 σ) (sh : SimH K H31 H1) (h : cIter3 g tt te still fin3 ts [] σ3 H31)
  (hf : ∀ ys us H' H3',TupLe K H1 H' -> SimH K H3' H' -> Reps K H' ys us -> fin3 ys H3' -> fin us H') : CompW J (lftG K g) (lftT K tt) (lft K te) fin σ H1:=by
 refine ⟨fun i m us σ H => ∃ σ3 H3 ys,TupLe K H1 H /\ SimS K H σ3 σ /\ SimH K H3 H /\ Reps K H ys us /\ m = ts.length - i /\ i <= ts.length /\ cIter3 g tt te still fin3 (ts.drop i) ys σ3 H3,⟨ts.length,σ3,H31,[],.refl,ss,sh,.nil,rfl,Nat.zero_le _,by simpa using h⟩,?_⟩
 rintro i m us σ H ⟨σ4,H4,ys,le4,ss4,sh4,ry,rfl,hi,it⟩
 have w:=wk H H4 le4 sh4 it.st
 by_cases hlt : i < ts.length
 ·
  have e:=List.getElem?_eq_getElem hlt
  have ed : ts.drop i = ts[i] :: ts.drop (i + 1):=List.drop_eq_getElem_cons hlt
  rw [ed] at it
  obtain ⟨st,it⟩:=it
  obtain ⟨go,yl⟩:=w.2 i _ e
  refine .inr ⟨go,fun x H' y => ?_⟩
  obtain ⟨le',sh',rx⟩:=yl x H' y
  refine ⟨ts[i],σ4,H4,_,rx,ss4.mono le',sh',it,fun σ2 H2 σ32 H32 le2 ss2 sh2 q2 => ?_⟩
  refine ⟨σ32,H32,_,ss2,sh2,q2,fun b H3 H33 le3 sh3 q3 => ?_⟩
  have all : TupLe K H H3:=le'.trans (le2.trans le3)
  cases b with
  | true =>
   rw [if_pos rfl] at q3
   refine iteT ?_
   refine ⟨σ32,H33,_,ss2.mono le3,sh3,q3,fun v H5 t H35 le5 sh5 rt q5 => ⟨by rw [<- ry.length]; exact q5.1,ts.length - (i + 1),by omega,σ32,H35,ys ++ [t],le4.trans (all.trans le5),ss2.mono (le3.trans le5),sh5,(ry.mono (all.trans le5)).append (.cons rt .nil),rfl,hlt,q5.2⟩⟩
  | false =>
   rw [if_neg Bool.false_ne_true] at q3
   refine iteF ?_
   exact ⟨ts.length - (i + 1),by omega,σ32,H33,ys,le4.trans all,ss2.mono le3,sh3,ry.mono all,rfl,hlt,q3⟩
 ·
  have e : i = ts.length:=by omega
  subst e
  rw [List.drop_length] at it
  exact .inl ⟨w.1 _ (Nat.le_refl _),by rw [<- ry.length]; exact it.2.1,hf _ _ _ _ le4 sh4 ry it.2.2⟩
def tComp3 (wi : TI3) (g : TG3) (tt : TT3) (te : TE3) (nt : Nat) (cap : List Nat) : TE3:=fun σ H Q => wi σ H fun ts still H1 => cIter3 g tt te still (fun ys H' => ∀ p,H' p = none -> Q (.ref p) (up3 H' p (.lst ys))) ts [] (cap3 nt cap σ) H1
def tSetComp3 (wi : TI3) (g : TG3) (tt : TT3) (te : TE3) (nt : Nat) (cap : List Nat) (i : Nat) : TS3:=fun D σ H => wi σ H fun ts still H1 => cIter3 g tt te still (fun ys H' => ∀ p,H' p = none -> D.nx (σ.set i (some (.ref p))) (up3 H' p (.lst ys))) ts [] (cap3 nt cap σ) H1
section
variable {X : Cx} {N' : List Str} {nt : Nat} {cap : List Nat} {scope : Scope} {elt tg iter : Expr} {ifs : List Expr} {pos pos' spos : Pos} {wi : TI3} {g : TG3} {tt : TT3} {te : TE3}
theorem e3_comp (hc : X.calm = true) (S : CompSc X N' nt cap scope) (hi : PI3 X tg iter wi)
  (hX : ∀ cl pins s H C fp,PG3 (cxComp X N' scope cl pins s H C fp) tg g /\ PIf3 (cxComp X N' scope cl pins s H C fp) ifs tt /\ PE3 (cxComp X N' scope cl pins s H C fp) elt te)
  (hs : ∀ x,foldedSetIterable iter X.env x = pure x:=by intro _; rfl) : PE3 X (.ListComp elt [⟨tg,iter,ifs,0⟩] scope pos) (tComp3 wi g tt te nt cap):=by
 refine PE.imp (pe_comp (g:=lftG X.K g) (tt:=lftT X.K tt) (te:=lft X.K te) hc S hi hX hs) ?_
 rintro σ H Q ⟨σ3,H3,Q3,ss,sh,h,k⟩
 refine ⟨σ3,H3,_,ss,sh,h,fun J ts still H1 H31 le sh1 wk q => ?_⟩
 exact compW3 wk (cap_sim (ss.mono le)) sh1 q fun ys us H' H3' le' sh' ry q' p hp => k _ _ _ _ (le.trans (le'.trans (upd_tupLe hp))) (sh'.newLst hp ry) .ofRef (q' p (sh'.fresh hp))
theorem s3_setC {i : Nat} {x : Str} (hc : X.calm = true) (hN : X.N.Nodup) (S : CompSc X N' nt cap scope) (hi : PI3 X tg iter wi)
  (hX : ∀ cl pins s H C fp,PG3 (cxComp X N' scope cl pins s H C fp) tg g /\ PIf3 (cxComp X N' scope cl pins s H C fp) ifs tt /\ PE3 (cxComp X N' scope cl pins s H C fp) elt te)
  (hi' : X.N[i]? = some x:=by rfl) (hx : Loc X.env.scope x:=by first | exact Or.inl rfl | exact Or.inr rfl)
  (hsw : swapsWith (.ListComp elt [⟨tg,iter,ifs,0⟩] scope pos) (some (.Name x pos')) spos.line X.env = pure true:=by rfl)
  (hs : ∀ x,foldedSetIterable iter X.env x = pure x:=by intro _; rfl) (hf : X.fn x = true \/ X.env.scope.names.lookup x = some .local:=by first | exact .inl rfl | exact .inr rfl | assumption) :
  PS3 X (.Assign [.Name x pos'] (.ListComp elt [⟨tg,iter,ifs,0⟩] scope pos) spos) (tSetComp3 wi g tt te nt cap i):=by
 refine PS.imp (ps_setC (g:=lftG X.K g) (tt:=lftT X.K tt) (te:=lft X.K te) hc hN hi' hx S hi hX hsw hs hf) ?_
 rintro D σ H ⟨σ3,H3,D3,ss,sh,h,k1,_⟩
 refine ⟨σ3,H3,_,ss,sh,h,fun J ts still H1 H31 le sh1 wk q => ?_⟩
 exact compW3 wk (cap_sim (ss.mono le)) sh1 q fun ys us H' H3' le' sh' ry q' p hp =>
  k1 _ _ _ _ (le.trans (le'.trans (upd_tupLe hp))) ((ss.mono (le.trans (le'.trans (upd_tupLe hp)))).set .ofRef) (sh'.newLst hp ry) (q' p (sh'.fresh hp))
end
abbrev Sp3:=List T -> Hp3 -> VK3 -> Prop
def lftSp (K : PySem.W.Frag) (sp : Sp3) : Sp:=fun vs H Q _ => ∃ ts H3 Q3,Reps K H ts vs /\ SimH K H3 H /\ sp ts H3 Q3 /\ KV3 K H Q3 Q
def Sub3 (H H' : Hp3) : Prop:=∀ a o,H a = some o -> H' a = some o
theorem Sub3.refl {H : Hp3} : Sub3 H H:=fun _ _ h => h
theorem Sub3.trans {H H1 H2 : Hp3} (a : Sub3 H H1) (b : Sub3 H1 H2) : Sub3 H H2:=fun c o h => b c o (a c o h)
theorem Sub3.new {H : Hp3} {p : Addr} {o : O3} (h : H p = none) : Sub3 H (up3 H p o):=fun a u e => by rw [up3_ne (ne3n e h)]; exact e
theorem SimH.sub {K : PySem.W.Frag} {H3 H3' : Hp3} {H : Hp} (s : SimH K H3' H) (h : Sub3 H3 H3') : SimH K H3 H:=fun a o e => s a o (h a o e)
def Fin3 (Q : VK3) : VK3:=fun v H => ∃ H',Sub3 H' H /\ Q v H'
theorem Fin3.of {Q : VK3} {v : T} {H H' : Hp3} (h : Sub3 H' H) (q : Q v H') : Fin3 Q v H:=⟨H',h,q⟩
noncomputable def start3 (N : List Str) (ts : List T) : St3:=ts.map some ++ List.replicate (N.length - ts.length) none
theorem start_sim {K : PySem.W.Frag} {H : Hp} {N : List Str} {ts : List T} {vs : List V} (r : Reps K H ts vs) : SimS K H (start3 N ts) (L2.start N vs):=by
 refine ⟨by simp [start3,L2.start,r.length],fun i t e => ?_⟩
 unfold start3 at e
 unfold L2.start
 have hl:=r.length
 by_cases hi : i < ts.length
 ·
  rw [List.getElem?_append_left (by simpa using hi),List.getElem?_map] at e
  rw [List.getElem?_append_left (by rw [List.length_map]; omega),List.getElem?_map]
  cases q : ts[i]? with
  | none => rw [q] at e; cases e
  | some u =>
   rw [q] at e; cases e
   obtain ⟨v,ev,rv⟩:=r.get q
   exact ⟨v,by rw [ev]; rfl,rv⟩
 ·
  rw [List.getElem?_append_right (by simpa using hi),List.getElem?_replicate] at e
  split at e <;> cases e
section
variable {X : Cx} {k : Nat} {f : Addr} {fd : FuncData} {ps : List Str} {sp : Sp3} {x : Str} {p pos : Pos} {e : Expr} {es : List Expr} {t : TA3}
def FnOk3 (P : Program) (w : World) (K : PySem.W.Frag) (mg : Str -> Option Value) (base : Heap) (k : Nat) (f : Addr) (fd : FuncData) (ps : List Str) (sp : Sp3) : Prop:=FnOk P w K mg base CX0 k f fd ps (lftSp K sp)
theorem FnOk3.mono {P : Program} {w : World} {K : PySem.W.Frag} {mg : Str -> Option Value} {base : Heap} {j k : Nat} (F : FnOk3 P w K mg base j f fd ps sp) (h : j <= k) : FnOk3 P w K mg base k f fd ps sp:=FnOk.mono F h
def tCall3 (sp : Sp3) (t : TA3) : TE3:=fun σ H Q => t σ H fun vs H1 => sp vs H1 Q
theorem e3_call (F : FnOk3 X.prog X.w X.K X.mg X.base k f fd ps sp) (hr : Room k X.A) (hg : Gl X x) (hm : X.mg x = some (.ref f)) (hk : PySem.W.keepIn X.K (.ref f) = true) (hb : Binds X.K fd ps [])
  (ha : PA3 X (e :: es) t) (hdb : (x == ("__debug__" : Str)) = false:=by decide) (he : starEach (e :: es) X.env = (false,eval e X.env) :: starEach es X.env:=by rfl) (hpl : (backTo pos (starEach es X.env)).any (·.1) = false:=by rfl) :
  PE3 X (.Call (.Name x p) (e :: es) [] pos) (tCall3 sp t):=by
 refine PE.imp (pe_call (dvs:=[]) (E:=E0) F hr hg hm hk hb .nil pass0 ha hdb he hpl) ?_
 rintro σ H Q ⟨σ3,H3,Q3,ss,sh,h,k⟩
 refine ⟨σ3,H3,_,ss,sh,h,fun vs H' ts H3' le sh' r q => ?_⟩
 show lftSp X.K sp (vs ++ []) H' Q E0
 rw [List.append_nil]
 exact ⟨ts,H3',Q3,r,sh',q,k.at le⟩
theorem fn3 {P : Program} {w : World} {K : PySem.W.Frag} {mg : Str -> Option Value} {base : Heap} {qual : Str} {st : Stmt} {N : List Str} (F : Fun K x qual st f fd) (S : FnScope N ps (defScope st)) (len : ∀ ts H Q,sp ts H Q -> ts.length = ps.length)
  (hbody : ∀ (cdv : Value) (A : Around) (outer : List Env) (s : Shared) (H : Hp) (E : XK) (ts : List T) (H3 : Hp3) (Q : VK3),Room k (A.deeper (envOfC qual (defScope st) s.heap.objs.size f cdv)) -> sp ts H3 Q ->
   ∃ t,PSs3 (cxOf CX0 P w K mg base N qual (defScope st) f cdv A outer s H E).nox (defBody st) t /\ t { nx:=fun _ H' => Fin3 Q .non H',rt:=Fin3 Q } (start3 N ts) H3) : FnOk3 P w K mg base (k + 1) f fd ps sp:=by
 refine F.ok S (fun vs H Q E ⟨ts,H3,Q3,r,sh,q,k⟩ => by rw [<- r.length]; exact len _ _ _ q) fun cdv A outer s H vs Q E hr ⟨ts,H3,Q3,r,sh,q,k⟩ => ?_
 obtain ⟨t,ht,hq⟩:=hbody cdv A outer s H E ts H3 Q3 hr q
 exact ⟨_,ht,start3 N ts,H3,_,start_sim r,sh,hq,fun σ' H' σ3' H3' le ss' sh' ⟨H4,sb,q⟩ => k _ _ _ _ le (sh'.sub sb) .ofNon q,fun v H' t H3' le sh' rv ⟨H4,sb,q⟩ => k _ _ _ _ le (sh'.sub sb) rv q,fun _ _ _ _ _ _ _ z => z,fun _ _ _ _ _ _ _ z => z⟩
end
end L3
namespace L3
open PySem PySem.Spec PyProof.Rows L2
noncomputable instance : DecidableEq T:=fun a b => Classical.propDecidable (a = b)
noncomputable def pl : Nat -> T -> Bool
 | _,.non => true
 | _,.int _ => true
 | _,.str _ => true
 | d + 1,.tup ts => ts.all (pl d)
 | _,_ => false
section
variable {X : Cx} {pins : List (Addr × Obj)} {σ : L2.St} {H : Hp} {s : Shared}
theorem rep_inj (I : Inv X pins σ H s) : ∀ (d : Nat) (x y : T) (v : V),pl d x = true -> pl d y = true -> Rep X.K H x v -> Rep X.K H y v -> x = y:=by
 intro d
 induction d with
 | zero =>
  intro x y v px py rx ry
  cases x <;> cases y <;> first
   | rfl
   | (simp only [Rep] at rx ry; subst rx; cases ry <;> rfl)
   | (simp [pl] at px; done)
   | (simp [pl] at py; done)
 | succ d ih =>
  intro x y v px py rx ry
  cases x with
  | tup ts =>
   cases y with
   | tup us =>
    obtain ⟨a,xs,rfl,sq,r⟩:=rx.tup
    obtain ⟨b,ys,e,sq',r'⟩:=ry.tup
    cases e
    have:=I.tuple_inj sq sq'
    subst this
    simp only [pl,List.all_eq_true] at px py
    congr 1
    have key : ∀ (ts us : List T) (xs : List V),(∀ t ∈ ts,pl d t = true) -> (∀ t ∈ us,pl d t = true) -> Reps X.K H ts xs -> Reps X.K H us xs -> ts = us:=by
     intro ts
     induction ts with
     | nil =>
      intro us xs _ _ h h'
      rw [h.inv0] at h'
      cases us with
      | nil => rfl
      | cons u us => obtain ⟨_,_,e,_⟩:=h'.inv; cases e
     | cons t ts ih2 =>
      intro us xs p1 p2 h h'
      obtain ⟨v,r,rfl,a,b⟩:=h.inv
      cases us with
      | nil => exact absurd h'.inv0 (by simp)
      | cons u us =>
       obtain ⟨v',r',e,a',b'⟩:=h'.inv
       cases e
       rw [ih t u v (p1 t List.mem_cons_self) (p2 u List.mem_cons_self) a a',ih2 us r (fun t ht => p1 t (List.mem_cons_of_mem _ ht)) (fun t ht => p2 t (List.mem_cons_of_mem _ ht)) b b']
    exact key ts us xs px py r r'
   | _ => first | (simp only [Rep] at rx ry; obtain ⟨a,xs,e,_⟩:=rx; subst e; cases ry; done) | (simp [pl] at py; done)
  | _ => cases y <;> first
   | rfl
   | (simp only [Rep] at rx ry; subst rx; cases ry <;> rfl)
   | (simp [pl] at px; done)
   | (simp [pl] at py; done)
   | (simp only [Rep] at rx ry; obtain ⟨a,xs,e,_⟩:=ry; subst e; cases rx; done)
theorem units_in1 (A : Around) : A.in1.units = A.units + 1:=by rfl
theorem all_eq_dec {α : Type} [DecidableEq (Option α)] (ts us : List α) : ((List.range (min ts.length us.length)).all (fun j => decide (ts[j]? = us[j]?)) && ts.length == us.length) = true ↔ ts = us:=by
 rw [Bool.and_eq_true,List.all_eq_true,beq_iff_eq]
 constructor
 ·
  rintro ⟨h,hl⟩
  refine List.ext_getElem? fun i => ?_
  by_cases hi : i < ts.length
  ·
   exact of_decide_eq_true (h i (List.mem_range.mpr (by omega)))
  ·
   rw [List.getElem?_eq_none (by omega),List.getElem?_eq_none (by omega)]
 ·
  rintro rfl
  exact ⟨fun i _ => by simp,rfl⟩
theorem vget {us : List Value} {i : Nat} (h : i < us.toArray.size) {v : Value} (e : us[i]? = some v) : us.toArray[i] = v:=by
 have : us.toArray[i]? = some v:=by simpa using e
 rw [Array.getElem?_eq_getElem h] at this
 exact Option.some.inj this
theorem eq_tree (I : Inv X pins σ H s) : ∀ (d : Nat) (A : Around) (x y : T) (vx vy : V) (u v : Value),pl d x = true -> pl d y = true -> Rep X.K H x vx -> Rep X.K H y vy -> RelV vx u -> RelV vy v -> A.units + d < cLine -> SeqAt.EqAt A s u v (decide (x = y)):=by
 have scal : ∀ (A : Around) (x y : T) (vx vy : V) (u v : Value),pl 0 x = true -> pl 0 y = true -> Rep X.K H x vx -> Rep X.K H y vy -> RelV vx u -> RelV vy v -> SeqAt.EqAt A s u v (decide (x = y)):=by
  intro A x y vx vy u v px py rx ry ru rv
  cases x with
  | non =>
   cases rx.non; cases ru
   cases y with
   | non => cases ry.non; cases rv; simp only [decide_true]; exact SeqAt.EqAt.same _
   | int j => cases ry.int; obtain ⟨t',rfl⟩:=rv; rw [decide_eq_false (by simp)]; exact SeqAt.EqAt.none_int _ _
   | str j => cases ry.str; obtain ⟨t',rfl⟩:=rv; rw [decide_eq_false (by simp)]; exact SeqAt.EqAt.none_str _ _
   | _ => simp [pl] at py
  | int i =>
   cases rx.int; obtain ⟨t,rfl⟩:=ru
   cases y with
   | non => cases ry.non; cases rv; rw [decide_eq_false (by simp)]; exact SeqAt.EqAt.int_none _ _
   | int j =>
    cases ry.int; obtain ⟨t',rfl⟩:=rv
    rw [show decide (T.int i = T.int j) = (i == j) by by_cases h : i = j <;> simp [h]]
    exact SeqAt.EqAt.int_int _ _ _ _
   | str j => cases ry.str; obtain ⟨t',rfl⟩:=rv; rw [decide_eq_false (by simp)]; exact SeqAt.EqAt.int_str _ _ _ _
   | _ => simp [pl] at py
  | str i =>
   cases rx.str; obtain ⟨t,rfl⟩:=ru
   cases y with
   | non => cases ry.non; cases rv; rw [decide_eq_false (by simp)]; exact SeqAt.EqAt.str_none _ _
   | int j => cases ry.int; obtain ⟨t',rfl⟩:=rv; rw [decide_eq_false (by simp)]; exact SeqAt.EqAt.str_int _ _ _ _
   | str j =>
    cases ry.str; obtain ⟨t',rfl⟩:=rv
    rw [show decide (T.str i = T.str j) = (i == j) by by_cases h : i = j <;> simp [h]]
    exact SeqAt.EqAt.str_str _ _ _ _
   | _ => simp [pl] at py
  | _ => simp [pl] at px
 intro d
 induction d with
 | zero => intro A x y vx vy u v px py rx ry ru rv _; exact scal A x y vx vy u v px py rx ry ru rv
 | succ d ih =>
  intro A x y vx vy u v px py rx ry ru rv hu
  have hu0 : A.units < cLine:=by omega
  cases x with
  | tup ts =>
   obtain ⟨a,xs,rfl,sq,r⟩:=rx.tup
   cases ru
   obtain ⟨its,rv1,ht,_⟩:=I.tuple sq
   cases y with
   | tup us =>
    obtain ⟨b,ys,rfl,sq',r'⟩:=ry.tup
    cases rv
    obtain ⟨its',rv2,ht',_⟩:=I.tuple sq'
    by_cases hab : a = b
    ·
     subst hab
     have e : T.tup ts = T.tup us:=rep_inj I (d + 1) _ _ (.ref a) px py (.ofTup sq r) (.ofTup sq' r')
     rw [e,decide_eq_true rfl]
     exact SeqAt.EqAt.same _
    ·
     have l1:=r.length
     have l2:=r'.length
     have l3:=rv1.length
     have l4:=rv2.length
     have key:=SeqAt.RcAt.tuples (A:=A) (s:=s) (e:=fun j => decide (ts[j]? = us[j]?)) (show s.heap.IsTuple a its.toArray from ht) (show s.heap.IsTuple b its'.toArray from ht') hu0 (fun j h1 h2 => by
      rw [List.size_toArray] at h1 h2
      have g1 : j < ts.length:=by omega
      have g2 : j < us.length:=by omega
      obtain ⟨p1,e1,q1⟩:=r.get (List.getElem?_eq_getElem g1)
      obtain ⟨p2,e2,q2⟩:=r'.get (List.getElem?_eq_getElem g2)
      obtain ⟨z1,f1,w1⟩:=rv1.get e1
      obtain ⟨z2,f2,w2⟩:=rv2.get e2
      rw [vget _ f1,vget _ f2,List.getElem?_eq_getElem g1,List.getElem?_eq_getElem g2]
      simp only [pl,List.all_eq_true] at px py
      have:=ih A.in1 ts[j] us[j] p1 p2 z1 z2 (px _ (List.getElem_mem g1)) (py _ (List.getElem_mem g2)) q1 q2 w1 w2 (by rw [units_in1]; omega)
      rw [show decide (some ts[j] = some us[j]) = decide (ts[j] = us[j]) by by_cases h : ts[j] = us[j] <;> simp [h]]
      exact this)
     have eb : ((List.range (min its.toArray.size its'.toArray.size)).all (fun j => decide (ts[j]? = us[j]?)) && its.toArray.size == its'.toArray.size) = decide (T.tup ts = T.tup us):=by
      rw [List.size_toArray,List.size_toArray,<- l3,<- l1,<- l4,<- l2,Bool.eq_iff_iff,all_eq_dec,decide_eq_true_iff]
      constructor
      ·
       rintro rfl; rfl
      ·
       intro h; injection h
     rw [eb] at key
     exact .of_refs hab key
   | non => cases ry.non; cases rv; rw [decide_eq_false (by simp)]; exact SeqAt.EqAt.tuple_none ht hu0
   | int j => cases ry.int; obtain ⟨t',rfl⟩:=rv; rw [decide_eq_false (by simp)]; exact SeqAt.EqAt.tuple_int _ _ ht hu0
   | str j => cases ry.str; obtain ⟨t',rfl⟩:=rv; rw [decide_eq_false (by simp)]; exact SeqAt.EqAt.tuple_str _ _ ht hu0
   | _ => simp [pl] at py
  | non =>
   cases y with
   | tup us =>
    obtain ⟨b,ys,rfl,sq',r'⟩:=ry.tup
    cases rv
    obtain ⟨its',rv2,ht',_⟩:=I.tuple sq'
    cases rx.non; cases ru; rw [decide_eq_false (by simp)]; exact SeqAt.EqAt.none_tuple ht' hu0
   | non => exact scal A _ _ vx vy u v rfl rfl rx ry ru rv
   | int j => exact scal A _ _ vx vy u v rfl rfl rx ry ru rv
   | str j => exact scal A _ _ vx vy u v rfl rfl rx ry ru rv
   | _ => simp [pl] at py
  | int i =>
   cases y with
   | tup us =>
    obtain ⟨b,ys,rfl,sq',r'⟩:=ry.tup
    cases rv
    obtain ⟨its',rv2,ht',_⟩:=I.tuple sq'
    cases rx.int; obtain ⟨t,rfl⟩:=ru; rw [decide_eq_false (by simp)]; exact SeqAt.EqAt.int_tuple _ _ ht' hu0
   | non => exact scal A _ _ vx vy u v rfl rfl rx ry ru rv
   | int j => exact scal A _ _ vx vy u v rfl rfl rx ry ru rv
   | str j => exact scal A _ _ vx vy u v rfl rfl rx ry ru rv
   | _ => simp [pl] at py
  | str i =>
   cases y with
   | tup us =>
    obtain ⟨b,ys,rfl,sq',r'⟩:=ry.tup
    cases rv
    obtain ⟨its',rv2,ht',_⟩:=I.tuple sq'
    cases rx.str; obtain ⟨t,rfl⟩:=ru; rw [decide_eq_false (by simp)]; exact SeqAt.EqAt.str_tuple _ _ ht' hu0
   | non => exact scal A _ _ vx vy u v rfl rfl rx ry ru rv
   | int j => exact scal A _ _ vx vy u v rfl rfl rx ry ru rv
   | str j => exact scal A _ _ vx vy u v rfl rfl rx ry ru rv
   | _ => simp [pl] at py
  | _ => simp [pl] at px
end
end L3
namespace L3
open PySem PySem.Spec PyProof.Rows L2
def rI3 (C : Int -> Int -> Prop) (g : Int -> Int -> T) : R3:=fun x y H Q => match x,y with
 | .int i,.int j => C i j /\ Q (g i j) H
 | _,_ => False
def rI03 (g : Int -> Int -> T) : R3:=fun x y H Q => match x,y with
 | .int i,.int j => Q (g i j) H
 | _,_ => False
section
variable {X : Cx}
theorem o3_I {f : Value -> Value -> Sem Value} {C : Int -> Int -> Prop} {g : Int -> Int -> T} {g' : Int -> Int -> V} (h : OpR X f (rI C g')) (hg : ∀ i j H,Rep X.K H (g i j) (g' i j)) : OpR3 X f (rI3 C g):=by
 refine OpR.imp h ?_
 rintro x y H Q ⟨tx,ty,H3,Q3,rx,ry,sh,h,k⟩
 cases tx with
 | int i =>
  cases ty with
  | int j => exact ⟨i,j,rx.int,ry.int,h.1,k _ _ _ _ .refl sh (hg i j H) h.2⟩
  | _ => exact h.elim
 | _ => exact h.elim
theorem o3_I0 {f : Value -> Value -> Sem Value} {g : Int -> Int -> T} {g' : Int -> Int -> V} (h : OpR X f (rI0 g')) (hg : ∀ i j H,Rep X.K H (g i j) (g' i j)) : OpR3 X f (rI03 g):=by
 refine OpR.imp h ?_
 rintro x y H Q ⟨tx,ty,H3,Q3,rx,ry,sh,h,k⟩
 cases tx with
 | int i =>
  cases ty with
  | int j => exact ⟨i,j,rx.int,ry.int,k _ _ _ _ .refl sh (hg i j H) h⟩
  | _ => exact h.elim
 | _ => exact h.elim
def CDiv3 (_ j : Int) : Prop:=0 < j /\ j.natAbs.log2 < 9000
theorem op_fdivL : OpR X (binaryOp .FloorDiv) (rI CDiv3 fun i j => .int (i / j)):=opI fun i j _ _ _ _ _ hc q => by
 have e : i / j = i.fdiv j:=(Int.fdiv_eq_ediv_of_nonneg i (Int.le_of_lt hc.1)).symm
 rw [e] at q
 exact floordiv_int (Int.ne_of_gt hc.1) q (.inl (PyProof.noPylong_of_log2 hc.2))
theorem o3_sub : OpR3 X (binaryOp .Sub) (rI03 fun i j => .int (i - j)):=o3_I0 op_sub fun _ _ _ => .ofInt
theorem o3_fdiv : OpR3 X (binaryOp .FloorDiv) (rI3 CDiv3 fun i j => .int (i / j)):=o3_I op_fdivL fun _ _ _ => .ofInt
theorem o3_mod : OpR3 X (binaryOp .Mod) (rI3 (fun _ j => 0 < j) fun i j => .int (i % j)):=o3_I op_mod fun _ _ _ => .ofInt
theorem o3_pow : OpR3 X (binaryOp .Pow) (rI3 CPow fun i j => .int (i ^ j.toNat)):=o3_I op_pow fun _ _ _ => .ofInt
theorem o3_lt : OpR3 X (compareOp .Lt) (rI03 fun i j => .bl (decide (i < j))):=o3_I0 op_lt fun _ _ _ => .ofBl
theorem o3_gt : OpR3 X (compareOp .Gt) (rI03 fun i j => .bl (decide (j < i))):=o3_I0 op_gt fun _ _ _ => .ofBl
theorem o3_mul : OpR3 X (binaryOp .Mult) (rI3 CMul fun i j => .int (i * j)):=o3_I op_mul fun _ _ _ => .ofInt
def rAdd3 : R3:=fun x y H Q => match x,y with
 | .int i,.int j => Q (.int (i + j)) H
 | .str i,.str j => i.length + j.length <= sizeLine /\ Q (.str (i ++ j)) H
 | .ref a,.ref b => match H a,H b with
  | some (.lst xs),some (.lst ys) => xs.length + ys.length <= sizeLine /\ ∀ p,H p = none -> Q (.ref p) (up3 H p (.lst (xs ++ ys)))
  | _,_ => False
 | .tup xs,.tup ys => xs.length + ys.length <= sizeLine /\ Q (.tup (xs ++ ys)) H
 | _,_ => False
theorem op_catT0 : OpR X (binaryOp .Add) (fun x y H Q => ∃ a b ys,x = .ref a /\ y = .ref b /\ SqT X.K H a [] /\ SqT X.K H b ys /\ Q (.ref b) H):=by
 intro pins s σ H x y v u Q I rx ry h
 obtain ⟨a,b,ys,rfl,rfl,ha,hb,q⟩:=h
 cases rx
 cases ry
 obtain ⟨its,r1,p1,_⟩:=I.tuple ha
 obtain ⟨its2,r2,p2,_⟩:=I.tuple hb
 cases r1
 obtain ⟨⟨cls,dd,data,sl⟩,ho,hc,n,hd⟩:=id p1
 obtain ⟨⟨cls2,dd2,data2,sl2⟩,ho2,hc2,n2,hd2⟩:=id p2
 simp only at hc hd hc2 hd2
 subst hc hd hc2 hd2
 exact concat_meets ⟨_,ho,rfl⟩ ⟨_,ho2,rfl⟩ noFill_tuple_add seq_tuple_add PySem.F.slot_tuple_add PySem.F.entry_tuple_add (PySem.F.args_tuple_add_2 _ _)
   (tuple_addW0 a b _ its2.toArray n n2 dd dd2 sl sl2 (by simp)) ⟨ho,ho2,⟨.ref b,H,I,rfl,q⟩⟩
theorem o3_add : OpR3 X (binaryOp .Add) rAdd3:=by
 refine OpR.imp (op_add.or (op_add_str.or (op_cat.or (op_catT.or op_catT0)))) ?_
 rintro x y H Q ⟨tx,ty,H3,Q3,rx,ry,sh,h,k⟩
 cases tx with
 | int i =>
  cases ty with
  | int j => exact .inl ⟨i,j,rx.int,ry.int,k _ _ _ _ .refl sh .ofInt h⟩
  | _ => exact h.elim
 | str i =>
  cases ty with
  | str j => exact .inr (.inl ⟨i,j,rx.str,ry.str,h.1,k _ _ _ _ .refl sh .ofStr h.2⟩)
  | _ => exact h.elim
 | ref a =>
  cases ty with
  | ref b =>
   have h' : (match H3 a,H3 b with
    | some (.lst xs),some (.lst ys) => xs.length + ys.length <= sizeLine /\ ∀ p,H3 p = none -> Q3 (.ref p) (up3 H3 p (.lst (xs ++ ys)))
    | _,_ => False):=h
   split at h'
   ·
    rename_i xs ys e1 e2
    obtain ⟨vs,g1,r1⟩:=sh a _ e1
    obtain ⟨ws,g2,r2⟩:=sh b _ e2
    refine .inr (.inr (.inl ⟨a,b,vs,ws,rx.ref,ry.ref,g1,g2,by rw [<- r1.length,<- r2.length]; exact h'.1,fun p hp => ?_⟩))
    exact k _ _ _ _ (upd_tupLe hp) (sh.newLst hp (r1.append r2)) .ofRef (h'.2 p (sh.fresh hp))
   ·
    exact h'.elim
  | _ => exact h.elim
 | tup xs =>
  cases ty with
  | tup ys =>
   obtain ⟨a,vs,rfl,s1,r1⟩:=rx.tup
   obtain ⟨b,ws,rfl,s2,r2⟩:=ry.tup
   by_cases hv : vs = []
   ·
    subst hv
    have e0 : xs = []:=List.eq_nil_of_length_eq_zero r1.length
    subst e0
    exact .inr (.inr (.inr (.inr ⟨a,b,ws,rfl,rfl,s1,s2,k _ _ _ _ .refl sh (.ofTup s2 r2) h.2⟩)))
   refine .inr (.inr (.inr (.inl ⟨a,b,vs,ws,rfl,rfl,s1,s2,hv,by rw [<- r1.length,<- r2.length]; exact h.1,fun hw => ?_,fun hw p hp => ?_⟩)))
   ·
    have e : ys = []:=by have:=r2.length; rw [hw] at this; exact List.eq_nil_of_length_eq_zero this
    have q:=h.2
    rw [e,List.append_nil] at q
    exact k _ _ _ _ .refl sh (.ofTup s1 r1) q
   ·
    exact k _ _ _ _ (upd_tupLe hp) (sh.new hp) (SimH.newTup (H3:=H3) hp (r1.append r2)) h.2
  | _ => exact h.elim
 | _ => exact h.elim
end
section
variable {X : Cx} {pins : List (Addr × Obj)} {σ : L2.St} {H : Hp} {s : Shared}
def r3Eq (neg : Bool) : R3:=fun x y H Q => match x,y with
 | .int i,.int j => Q (.bl (if neg then !decide (i = j) else decide (i = j))) H
 | .str i,.str j => Q (.bl (if neg then !decide (i = j) else decide (i = j))) H
 | .bl i,.bl j => Q (.bl (if neg then !decide (i = j) else decide (i = j))) H
 | .non,.non => Q (.bl (if neg then false else true)) H
 | .tup xs,.tup ys => xs.all (pl 20) = true /\ ys.all (pl 20) = true /\ Q (.bl (if neg then !decide (xs = ys) else decide (xs = ys))) H
 | .ref a,.ref b => match H a,H b with
  | some (.lst xs),some (.lst ys) => a ≠ b /\ xs.all (pl 20) = true /\ ys.all (pl 20) = true /\ Q (.bl (if neg then !decide (xs = ys) else decide (xs = ys))) H
  | _,_ => False
 | _,_ => False
theorem items_eq (I : Inv X pins σ H s) {ts us : List T} {xs ys : List V} {its its' : List Value} {A : Around} (hu : A.units + 30 < cLine) (px : ts.all (pl 20) = true) (py : us.all (pl 20) = true) (r : Reps X.K H ts xs) (r' : Reps X.K H us ys) (rv1 : Vals xs its) (rv2 : Vals ys its') :
  ∀ j (h1 : j < its.toArray.size) (h2 : j < its'.toArray.size),SeqAt.EqAt A.in1 s its.toArray[j] its'.toArray[j] (decide (ts[j]? = us[j]?)):=fun j h1 h2 => by
 have l1:=r.length
 have l2:=r'.length
 have l3:=rv1.length
 have l4:=rv2.length
 rw [List.size_toArray] at h1 h2
 have g1 : j < ts.length:=by omega
 have g2 : j < us.length:=by omega
 obtain ⟨p1,e1,q1⟩:=r.get (List.getElem?_eq_getElem g1)
 obtain ⟨p2,e2,q2⟩:=r'.get (List.getElem?_eq_getElem g2)
 obtain ⟨z1,f1,w1⟩:=rv1.get e1
 obtain ⟨z2,f2,w2⟩:=rv2.get e2
 rw [vget _ f1,vget _ f2,List.getElem?_eq_getElem g1,List.getElem?_eq_getElem g2]
 rw [List.all_eq_true] at px py
 have:=eq_tree I 20 A.in1 ts[j] us[j] p1 p2 z1 z2 (px _ (List.getElem_mem g1)) (py _ (List.getElem_mem g2)) q1 q2 w1 w2 (by rw [units_in1]; omega)
 rw [show decide (some ts[j] = some us[j]) = decide (ts[j] = us[j]) by by_cases h : ts[j] = us[j] <;> simp [h]]
 exact this
theorem rows_dec {ts us : List T} : ((List.range (min ts.length us.length)).all (fun j => decide (ts[j]? = us[j]?)) && ts.length == us.length) = decide (ts = us):=by
 rw [Bool.eq_iff_iff,all_eq_dec,decide_eq_true_iff]
theorem o3_eq (hu : X.A.units + 30 < cLine) : OpR3 X (compareOp .Eq) (r3Eq false):=by
 intro pins s σ H x y v u Q I rv ru h
 obtain ⟨tx,ty,H3,Q3,rx,ry,sh,h,k⟩:=h
 have sc : ∀ {x y : V},scal x y = true -> RelV x v -> RelV y u -> (k : Q (.bl (decide (x = y))) H) -> wpAny (model X.prog X.w) X.A (compareOp .Eq v u) (EP X pins σ Q) X.xe s:=fun {x y} a r1 r2 q => op_eq pins s σ H x y v u Q I r1 r2 ⟨a,q⟩
 cases tx with
 | int i =>
  cases ty with
  | int j =>
   rw [rx.int] at rv; rw [ry.int] at ru
   exact sc rfl rv ru (k _ _ _ _ .refl sh (by rw [show decide (V.int i = V.int j) = decide (i = j) by by_cases e : i = j <;> simp [e]]; exact .ofBl) h)
  | _ => exact h.elim
 | str i =>
  cases ty with
  | str j =>
   rw [rx.str] at rv; rw [ry.str] at ru
   exact sc rfl rv ru (k _ _ _ _ .refl sh (by rw [show decide (V.str i = V.str j) = decide (i = j) by by_cases e : i = j <;> simp [e]]; exact .ofBl) h)
  | _ => exact h.elim
 | bl i =>
  cases ty with
  | bl j =>
   rw [rx.bl] at rv; rw [ry.bl] at ru
   exact sc rfl rv ru (k _ _ _ _ .refl sh (by rw [show decide (V.bl i = V.bl j) = decide (i = j) by by_cases e : i = j <;> simp [e]]; exact .ofBl) h)
  | _ => exact h.elim
 | non =>
  cases ty with
  | non =>
   rw [rx.non] at rv; rw [ry.non] at ru
   exact sc rfl rv ru (k _ _ _ _ .refl sh (by rw [show decide (V.non = V.non) = true by simp]; exact .ofBl) h)
  | _ => exact h.elim
 | tup ts =>
  cases ty with
  | tup us =>
   obtain ⟨a,xs,rfl,sq,r⟩:=rx.tup
   obtain ⟨b,ys,rfl,sq',r'⟩:=ry.tup
   cases rv; cases ru
   obtain ⟨its,rv1,ht,_⟩:=I.tuple sq
   obtain ⟨its',rv2,ht',_⟩:=I.tuple sq'
   refine SeqAt.eq_tupleAt (e:=fun j => decide (ts[j]? = us[j]?)) ht ht' (by omega) (items_eq I hu h.1 h.2.1 r r' rv1 rv2) ⟨.bl _,H,I,rfl,?_⟩
   rw [List.size_toArray,List.size_toArray,<- rv1.length,<- rv2.length,<- r.length,<- r'.length,rows_dec]
   exact k _ _ _ _ .refl sh .ofBl h.2.2
  | _ => exact h.elim
 | ref a =>
  cases ty with
  | ref b =>
   have h' : (match H3 a,H3 b with
    | some (.lst xs),some (.lst ys) => a ≠ b /\ xs.all (pl 20) = true /\ ys.all (pl 20) = true /\ Q3 (.bl (decide (xs = ys))) H3
    | _,_ => False):=h
   split at h'
   ·
    rename_i ts us e1 e2
    obtain ⟨xs,g1,r⟩:=sh a _ e1
    obtain ⟨ys,g2,r'⟩:=sh b _ e2
    cases rx.ref; cases ry.ref; cases rv; cases ru
    obtain ⟨its,rv1,ht,_⟩:=I.list (X:=X) (.of g1)
    obtain ⟨its',rv2,ht',_⟩:=I.list (X:=X) (.of g2)
    have hl : its.length = ts.length:=by rw [<- rv1.length,<- r.length]
    have hl' : its'.length = us.length:=by rw [<- rv2.length,<- r'.length]
    by_cases hsz : ts.length = us.length
    ·
     refine SeqAt.eq_listAt (e:=fun j => decide (ts[j]? = us[j]?)) ht.isList ht'.isList (by simp; omega) (by omega) (items_eq I hu h'.2.1 h'.2.2.1 r r' rv1 rv2) ⟨.bl _,H,I,rfl,?_⟩
     have e:=rows_dec (ts:=ts) (us:=us)
     rw [<- hsz,Nat.min_self,beq_self_eq_true,Bool.and_true] at e
     rw [List.size_toArray,hl,e]
     exact k _ _ _ _ .refl sh .ofBl h'.2.2.2
    ·
     refine SeqAt.eq_list_lengthsAt ht.isList ht'.isList (by simp; omega) (by omega) ⟨.bl false,H,I,rfl,?_⟩
     have e : decide (ts = us) = false:=decide_eq_false fun z => hsz (by rw [z])
     have q:=h'.2.2.2
     rw [e] at q
     exact k _ _ _ _ .refl sh .ofBl q
   ·
    exact h'.elim
  | _ => exact h.elim
 | _ => exact h.elim
theorem o3_ne (hu : X.A.units + 30 < cLine) : OpR3 X (compareOp .NotEq) (r3Eq true):=by
 intro pins s σ H x y v u Q I rv ru h
 obtain ⟨tx,ty,H3,Q3,rx,ry,sh,h,k⟩:=h
 have sc : ∀ {x y : V},scal x y = true -> RelV x v -> RelV y u -> (k : Q (.bl (!decide (x = y))) H) -> wpAny (model X.prog X.w) X.A (compareOp .NotEq v u) (EP X pins σ Q) X.xe s:=fun {x y} a r1 r2 q => op_ne pins s σ H x y v u Q I r1 r2 ⟨a,q⟩
 cases tx with
 | int i =>
  cases ty with
  | int j =>
   rw [rx.int] at rv; rw [ry.int] at ru
   exact sc rfl rv ru (k _ _ _ _ .refl sh (by rw [show decide (V.int i = V.int j) = decide (i = j) by by_cases e : i = j <;> simp [e]]; exact .ofBl) h)
  | _ => exact h.elim
 | str i =>
  cases ty with
  | str j =>
   rw [rx.str] at rv; rw [ry.str] at ru
   exact sc rfl rv ru (k _ _ _ _ .refl sh (by rw [show decide (V.str i = V.str j) = decide (i = j) by by_cases e : i = j <;> simp [e]]; exact .ofBl) h)
  | _ => exact h.elim
 | bl i =>
  cases ty with
  | bl j =>
   rw [rx.bl] at rv; rw [ry.bl] at ru
   exact sc rfl rv ru (k _ _ _ _ .refl sh (by rw [show decide (V.bl i = V.bl j) = decide (i = j) by by_cases e : i = j <;> simp [e]]; exact .ofBl) h)
  | _ => exact h.elim
 | non =>
  cases ty with
  | non =>
   rw [rx.non] at rv; rw [ry.non] at ru
   exact sc rfl rv ru (k _ _ _ _ .refl sh (by rw [show decide (V.non = V.non) = true by simp]; exact .ofBl) h)
  | _ => exact h.elim
 | tup ts =>
  cases ty with
  | tup us =>
   obtain ⟨a,xs,rfl,sq,r⟩:=rx.tup
   obtain ⟨b,ys,rfl,sq',r'⟩:=ry.tup
   cases rv; cases ru
   obtain ⟨its,rv1,ht,_⟩:=I.tuple sq
   obtain ⟨its',rv2,ht',_⟩:=I.tuple sq'
   refine SeqAt.RcNeAt.tuples (e:=fun j => decide (ts[j]? = us[j]?)) ht ht' (by omega) (items_eq I hu h.1 h.2.1 r r' rv1 rv2) _ _ _ _ ⟨.bl _,H,I,rfl,?_⟩
   rw [List.size_toArray,List.size_toArray,<- rv1.length,<- rv2.length,<- r.length,<- r'.length,rows_dec]
   exact k _ _ _ _ .refl sh .ofBl h.2.2
  | _ => exact h.elim
 | ref a =>
  cases ty with
  | ref b =>
   have h' : (match H3 a,H3 b with
    | some (.lst xs),some (.lst ys) => a ≠ b /\ xs.all (pl 20) = true /\ ys.all (pl 20) = true /\ Q3 (.bl (!decide (xs = ys))) H3
    | _,_ => False):=h
   split at h'
   ·
    rename_i ts us e1 e2
    obtain ⟨xs,g1,r⟩:=sh a _ e1
    obtain ⟨ys,g2,r'⟩:=sh b _ e2
    cases rx.ref; cases ry.ref; cases rv; cases ru
    obtain ⟨its,rv1,ht,_⟩:=I.list (X:=X) (.of g1)
    obtain ⟨its',rv2,ht',_⟩:=I.list (X:=X) (.of g2)
    have hl : its.length = ts.length:=by rw [<- rv1.length,<- r.length]
    have hl' : its'.length = us.length:=by rw [<- rv2.length,<- r'.length]
    by_cases hsz : ts.length = us.length
    ·
     refine SeqAt.RcNeAt.lists (e:=fun j => decide (ts[j]? = us[j]?)) ht.isList ht'.isList (by simp; omega) (by omega) (items_eq I hu h'.2.1 h'.2.2.1 r r' rv1 rv2) _ _ _ _ ⟨.bl _,H,I,rfl,?_⟩
     have e:=rows_dec (ts:=ts) (us:=us)
     rw [<- hsz,Nat.min_self,beq_self_eq_true,Bool.and_true] at e
     rw [List.size_toArray,hl,e]
     exact k _ _ _ _ .refl sh .ofBl h'.2.2.2
    ·
     refine SeqAt.RcNeAt.lists_lengths ht.isList ht'.isList (by simp; omega) (by omega) _ _ _ _ ⟨.bl true,H,I,rfl,?_⟩
     have e : decide (ts = us) = false:=decide_eq_false fun z => hsz (by rw [z])
     have q:=h'.2.2.2
     rw [e] at q
     exact k _ _ _ _ .refl sh .ofBl q
   ·
    exact h'.elim
  | _ => exact h.elim
 | _ => exact h.elim
noncomputable def memB (neg : Bool) (x : T) (ts : List T) : Bool:=if neg then !decide (x ∈ ts) else decide (x ∈ ts)
noncomputable def occ (neg : Bool) (i j : Str) : Bool:=if neg then !(!(Builtin.Str.occurrences j i 0 j.length 1).isEmpty) else !(Builtin.Str.occurrences j i 0 j.length 1).isEmpty
def r3In (neg : Bool) : R3:=fun x y H Q => match y with
 | .tup ts => pl 20 x = true /\ ts.all (pl 20) = true /\ Q (.bl (memB neg x ts)) H
 | .ref a => match H a with
  | some (.lst ts) => pl 20 x = true /\ ts.all (pl 20) = true /\ Q (.bl (memB neg x ts)) H
  | some (.rol ts) => pl 20 x = true /\ ts.all (pl 20) = true /\ Q (.bl (memB neg x ts)) H
  | _ => False
 | .str j => match x with
  | .str i => Q (.bl (occ neg i j)) H
  | _ => False
 | _ => False
theorem any_is (I : Inv X pins σ H s) {x : T} {ts : List T} {xs : List V} {its : List Value} (px : pl 20 x = true) (pts : ts.all (pl 20) = true) (r : Reps X.K H ts xs) (rv : Vals xs its) (A : Around) (hu : A.units + 30 < cLine) {vx : V} {u : Value} (rx : Rep X.K H x vx) (ru : RelV vx u) :
  ∃ e : Value -> Bool,(∀ y,y ∈ its -> SeqAt.EqAt A s y u (e y)) /\ its.any e = decide (x ∈ ts):=by
 rw [List.all_eq_true] at pts
 have own : ∀ y,y ∈ its -> ∃ t v,t ∈ ts /\ Rep X.K H t v /\ RelV v y:=fun y hy => by
  obtain ⟨i,hi,e⟩:=List.mem_iff_getElem.mp hy
  have hl:=rv.length
  have e' : its[i]? = some y:=by rw [List.getElem?_eq_getElem hi,e]
  have hx : xs[i]? = some xs[i]:=List.getElem?_eq_getElem (by omega)
  obtain ⟨z,ez,rz⟩:=rv.get hx
  rw [e'] at ez; cases ez
  obtain ⟨t,et,rt⟩:=r.get' hx
  exact ⟨t,_,List.mem_of_getElem? et,rt,rz⟩
 have dec : ∀ t v y,t ∈ ts -> Rep X.K H t v -> RelV v y -> (@decide (∃ v,RelV v y /\ Rep X.K H x v) (Classical.propDecidable _) = true ↔ t = x):=fun t v y ht rt ry => by
  rw [@decide_eq_true_iff _ (Classical.propDecidable _)]
  constructor
  ·
   rintro ⟨v',r1,r2⟩
   cases r1.inj ry
   exact rep_inj I 20 t x _ (pts t ht) px rt r2
  ·
   rintro rfl
   exact ⟨v,ry,rt⟩
 refine ⟨fun y => @decide (∃ v,RelV v y /\ Rep X.K H x v) (Classical.propDecidable _),fun y hy => ?_,?_⟩
 ·
  obtain ⟨t,v,ht,rt,ry⟩:=own y hy
  have q:=eq_tree I 20 A t x v vx y u (pts t ht) px rt rx ry ru (by omega)
  have e : @decide (∃ v,RelV v y /\ Rep X.K H x v) (Classical.propDecidable _) = decide (t = x):=by
   rw [Bool.eq_iff_iff,dec t v y ht rt ry,decide_eq_true_iff]
  show SeqAt.EqAt A s y u (@decide (∃ v,RelV v y /\ Rep X.K H x v) (Classical.propDecidable _))
  rw [e]
  exact q
 ·
  rw [Bool.eq_iff_iff,List.any_eq_true,decide_eq_true_iff]
  constructor
  ·
   rintro ⟨y,hy,e⟩
   obtain ⟨t,v,ht,rt,ry⟩:=own y hy
   rw [<- (dec t v y ht rt ry).mp e]
   exact ht
  ·
   intro hx
   obtain ⟨i,hi,e⟩:=List.mem_iff_getElem.mp hx
   obtain ⟨v,ev,rvv⟩:=r.get (show ts[i]? = some x by rw [List.getElem?_eq_getElem hi,e])
   obtain ⟨y,ey,ry⟩:=rv.get ev
   exact ⟨y,List.mem_of_getElem? ey,(dec x v y hx rvv ry).mpr rfl⟩
end
end L3
namespace L3
open PySem PySem.Spec PyProof.Rows L2
section
variable {X : Cx}
theorem o3_in (hu : X.A.units + 31 < cLine) : OpR3 X (compareOp .In) (r3In false):=by
 intro pins s σ H x y v u Q I rv ru h
 obtain ⟨tx,ty,H3,Q3,rx,ry,sh,h,k⟩:=h
 have hu' : X.A.in1.units + 30 < cLine:=by rw [units_in1]; omega
 have lst : ∀ {a : Addr} {ts : List T} {xs : List V},SqL X.K H a xs -> Reps X.K H ts xs -> u = .ref a -> pl 20 tx = true -> ts.all (pl 20) = true -> Q3 (.bl (memB false tx ts)) H3 -> wpAny (model X.prog X.w) X.A (compareOp .In v u) (EP X pins σ Q) X.xe s:=by
  intro a ts xs sq r e p1 p2 q
  subst e
  obtain ⟨its,rvs,ht,_⟩:=I.list sq
  obtain ⟨e,he,ea⟩:=any_is I p1 p2 r rvs X.A.in1 hu' rx rv
  refine SeqAt.in_listAt e ht.isList (fun y hy => he y (by simpa using hy)) ⟨.bl _,H,I,rfl,?_⟩
  rw [show its.toArray.any e = its.any e by simp,ea]
  exact k _ _ _ _ .refl sh .ofBl q
 cases ty with
 | tup ts =>
  obtain ⟨a,xs,rfl,sq,r⟩:=ry.tup
  cases ru
  obtain ⟨its,rvs,ht,_⟩:=I.tuple sq
  obtain ⟨e,he,ea⟩:=any_is I h.1 h.2.1 r rvs X.A.in1 hu' rx rv
  refine SeqAt.in_tupleAt e ht (fun y hy => he y (by simpa using hy)) ⟨.bl _,H,I,rfl,?_⟩
  rw [show its.toArray.any e = its.any e by simp,ea]
  exact k _ _ _ _ .refl sh .ofBl h.2.2
 | ref a =>
  have h' : (match H3 a with
   | some (.lst ts) => pl 20 tx = true /\ ts.all (pl 20) = true /\ Q3 (.bl (memB false tx ts)) H3
   | some (.rol ts) => pl 20 tx = true /\ ts.all (pl 20) = true /\ Q3 (.bl (memB false tx ts)) H3
   | _ => False):=h
  rw [ry.ref] at ru
  split at h'
  ·
   rename_i ts e
   obtain ⟨xs,sq,r⟩:=sh.sqL (.inl e)
   exact lst sq r ru h'.1 h'.2.1 h'.2.2
  ·
   rename_i ts e
   obtain ⟨xs,sq,r⟩:=sh.sqL (.inr e)
   exact lst sq r ru h'.1 h'.2.1 h'.2.2
  ·
   exact h'.elim
 | str j =>
  cases tx with
  | str i => exact op_in_str pins s σ H x y v u Q I rv ru ⟨i,j,rx.str,ry.str,k _ _ _ _ .refl sh .ofBl h⟩
  | _ => exact h.elim
 | _ => exact h.elim
theorem o3_notin (hu : X.A.units + 31 < cLine) : OpR3 X (compareOp .NotIn) (r3In true):=by
 intro pins s σ H x y v u Q I rv ru h
 obtain ⟨tx,ty,H3,Q3,rx,ry,sh,h,k⟩:=h
 have hu' : X.A.in1.units + 30 < cLine:=by rw [units_in1]; omega
 have lst : ∀ {a : Addr} {ts : List T} {xs : List V},SqL X.K H a xs -> Reps X.K H ts xs -> u = .ref a -> pl 20 tx = true -> ts.all (pl 20) = true -> Q3 (.bl (memB true tx ts)) H3 -> wpAny (model X.prog X.w) X.A (compareOp .NotIn v u) (EP X pins σ Q) X.xe s:=by
  intro a ts xs sq r e p1 p2 q
  subst e
  obtain ⟨its,rvs,ht,_⟩:=I.list sq
  obtain ⟨e,he,ea⟩:=any_is I p1 p2 r rvs X.A.in1 hu' rx rv
  refine SeqAt.notIn_listAt e ht.isList (fun y hy => he y (by simpa using hy)) ⟨.bl _,H,I,rfl,?_⟩
  rw [show its.toArray.any e = its.any e by simp,ea]
  exact k _ _ _ _ .refl sh .ofBl q
 cases ty with
 | tup ts =>
  obtain ⟨a,xs,rfl,sq,r⟩:=ry.tup
  cases ru
  obtain ⟨its,rvs,ht,_⟩:=I.tuple sq
  obtain ⟨e,he,ea⟩:=any_is I h.1 h.2.1 r rvs X.A.in1 hu' rx rv
  refine SeqAt.notIn_tupleAt e ht (fun y hy => he y (by simpa using hy)) ⟨.bl _,H,I,rfl,?_⟩
  rw [show its.toArray.any e = its.any e by simp,ea]
  exact k _ _ _ _ .refl sh .ofBl h.2.2
 | ref a =>
  have h' : (match H3 a with
   | some (.lst ts) => pl 20 tx = true /\ ts.all (pl 20) = true /\ Q3 (.bl (memB true tx ts)) H3
   | some (.rol ts) => pl 20 tx = true /\ ts.all (pl 20) = true /\ Q3 (.bl (memB true tx ts)) H3
   | _ => False):=h
  rw [ry.ref] at ru
  split at h'
  ·
   rename_i ts e
   obtain ⟨xs,sq,r⟩:=sh.sqL (.inl e)
   exact lst sq r ru h'.1 h'.2.1 h'.2.2
  ·
   rename_i ts e
   obtain ⟨xs,sq,r⟩:=sh.sqL (.inr e)
   exact lst sq r ru h'.1 h'.2.1 h'.2.2
  ·
   exact h'.elim
 | str j =>
  cases tx with
  | str i => exact op_notin_str pins s σ H x y v u Q I rv ru ⟨i,j,rx.str,ry.str,k _ _ _ _ .refl sh .ofBl h⟩
  | _ => exact h.elim
 | _ => exact h.elim
def oq {α : Type} (o : Option α) (Q : α -> Prop) : Prop:=match o with
 | some v => Q v
 | none => False
def r3Ix : R3:=fun x y H Q => match x,y with
 | .ref a,.int i => match H a with
  | some (.lst ts) => oq (atI ts i) fun t => Q t H
  | some (.rol ts) => oq (atI ts i) fun t => Q t H
  | _ => False
 | .tup ts,.int i => oq (atI ts i) fun t => Q t H
 | .str z,.int i => z.length <= sizeLine /\ oq (atI z.cps.toList i) fun c => Q (.str ⟨#[c]⟩) H
 | _,_ => False
theorem atI_rep {K : PySem.W.Frag} {H : Hp} {ts : List T} {xs : List V} {i : Int} {t : T} (r : Reps K H ts xs) (h : atI ts i = some t) : ∃ v,atI xs i = some v /\ Rep K H t v:=by
 unfold atI at h ⊢
 rw [<- r.length]
 cases e : ixN ts.length i with
 | none => rw [e] at h; cases h
 | some j =>
  rw [e] at h
  exact r.get h
theorem ix3 : IxR3 X r3Ix:=by
 refine IxR.imp ix_seq ?_
 rintro x y H Q ⟨tx,ty,H3,Q3,rx,ry,sh,h,k⟩
 have lst : ∀ {a : Addr} {ts : List T} {xs : List V} {i : Int},SqL X.K H a xs -> Reps X.K H ts xs -> x = .ref a -> y = .int i -> oq (atI ts i) (fun t => Q3 t H3) -> rIx X.K x y H Q:=by
  intro a ts xs i sq r e1 e2 q
  cases e : atI ts i with
  | none => rw [e] at q; exact q.elim
  | some t =>
   rw [e] at q
   obtain ⟨v,ev,rv⟩:=atI_rep r e
   exact .inl ⟨a,xs,i,v,e1,e2,sq,ev,k _ _ _ _ .refl sh rv q⟩
 cases tx with
 | ref a =>
  cases ty with
  | int i =>
   have h' : (match H3 a with
    | some (.lst ts) => oq (atI ts i) fun t => Q3 t H3
    | some (.rol ts) => oq (atI ts i) fun t => Q3 t H3
    | _ => False):=h
   split at h'
   ·
    rename_i ts e
    obtain ⟨xs,sq,r⟩:=sh.sqL (.inl e)
    exact lst sq r rx.ref ry.int h'
   ·
    rename_i ts e
    obtain ⟨xs,sq,r⟩:=sh.sqL (.inr e)
    exact lst sq r rx.ref ry.int h'
   ·
    exact h'.elim
  | _ => exact h.elim
 | tup ts =>
  cases ty with
  | int i =>
   have h' : oq (atI ts i) fun t => Q3 t H3:=h
   cases e : atI ts i with
   | none => rw [e] at h'; exact h'.elim
   | some t =>
    rw [e] at h'
    obtain ⟨a,xs,e1,sq,r⟩:=rx.tup
    obtain ⟨v,ev,rv⟩:=atI_rep r e
    exact .inr (.inl ⟨a,xs,i,v,e1,ry.int,sq,ev,k _ _ _ _ .refl sh rv h'⟩)
  | _ => exact h.elim
 | str z =>
  cases ty with
  | int i =>
   have h' : z.length <= sizeLine /\ oq (atI z.cps.toList i) fun c => Q3 (.str ⟨#[c]⟩) H3:=h
   cases e : atI z.cps.toList i with
   | none => rw [e] at h'; exact h'.2.elim
   | some c =>
    rw [e] at h'
    exact .inr (.inr ⟨z,i,c,rx.str,ry.int,h'.1,e,k _ _ _ _ .refl sh .ofStr h'.2⟩)
  | _ => exact h.elim
 | _ => exact h.elim
def r3SetL : TSet3:=fun o i v H Q => match o,i with
 | .ref a,.int k => match H a with
  | some (.lst ts) => oq (ixN ts.length k) fun j => Q (up3 H a (.lst (ts.set j v)))
  | _ => False
 | _,_ => False
theorem SimH.wrL {K : PySem.W.Frag} {H : Hp} {H3 : Hp3} {a : Addr} {xs : List V} {ts : List T} {xs' : List V} (s : SimH K H3 H) (hH : H a = some (.lst xs)) (r : Reps K H ts xs') : SimH K (up3 H3 a (.lst ts)) (upd H a (.lst xs')):=fun b o e => by
 have le : TupLe K H (upd H a (.lst xs')):=wr_tupLe (by rw [hH]; exact trivial)
 by_cases hb : b = a
 ·
  subst hb
  rw [up3_same] at e; cases e
  exact ⟨xs',upd_same,r.mono le⟩
 ·
  rw [up3_ne hb] at e
  exact (s b o e).stay le fun u q => by rw [upd_ne hb]; exact q
theorem set3_list : PSet3 X r3SetL:=by
 refine PSet.imp set_list ?_
 rintro o i v H Q ⟨to,ti,tv,H3,Q3,ro,ri,rv,sh,h,k⟩
 cases to with
 | ref a =>
  cases ti with
  | int n =>
   have h' : (match H3 a with
    | some (.lst ts) => oq (ixN ts.length n) fun j => Q3 (up3 H3 a (.lst (ts.set j tv)))
    | _ => False):=h
   split at h'
   ·
    rename_i ts e
    obtain ⟨xs,hH,r⟩:=sh a _ e
    cases ej : ixN ts.length n with
    | none => rw [ej] at h'; exact h'.elim
    | some j =>
     rw [ej] at h'
     exact ⟨a,xs,n,j,ro.ref,ri.int,hH,by rw [<- r.length]; exact ej,k _ _ (wr_tupLe (by rw [hH]; exact trivial)) (sh.wrL hH (r.set j rv)) h'⟩
   ·
    exact h'.elim
  | _ => exact h.elim
 | _ => exact h.elim
abbrev TO3:=St3 -> Hp3 -> (Option Int -> Hp3 -> Prop) -> Prop
def lftO (K : PySem.W.Frag) (t3 : TO3) : TO:=fun σ H Q => ∃ σ3 H3 Q3,SimS K H σ3 σ /\ SimH K H3 H /\ t3 σ3 H3 Q3 /\ ∀ o H' H3',TupLe K H H' -> SimH K H3' H' -> Q3 o H3' -> Q o H'
def PO3 (X : Cx) (e : Option Expr) (t : TO3) : Prop:=PO X e (lftO X.K t)
theorem PO.imp {e : Option Expr} {t t' : TO} (h : PO X e t) (w : ∀ σ H Q,t' σ H Q -> t σ H Q) : PO X e t':=fun pins s σ H Q I q => h pins s σ H Q I (w σ H Q q)
def tNoPart3 : TO3:=fun _ H Q => Q none H
def tPart3 (t : TE3) : TO3:=fun σ H Q => t σ H fun x H1 => match x with
 | .int i => Q (some i) H1
 | _ => False
theorem po3_none : PO3 X none tNoPart3:=by
 refine PO.imp po_none ?_
 rintro σ H Q ⟨σ3,H3,Q3,ss,sh,h,k⟩
 exact k _ _ _ .refl sh h
theorem po3_some {e : Expr} {te : TE3} (h : PE3 X e te) : PO3 X (some e) (tPart3 te):=by
 refine PO.imp (po_some h) ?_
 rintro σ H Q ⟨σ3,H3,Q3,ss,sh,h,k⟩
 refine ⟨σ3,H3,_,ss,sh,h,fun v H' t H3' le sh' r q => ?_⟩
 cases t with
 | int i => exact ⟨i,r.int,k _ _ _ le sh' q⟩
 | _ => exact q.elim
theorem sl_str : SlR X (fun x lo hi H Q => ∃ z,x = .str z /\ z.length <= sizeLine /\ Q (.str (PySem.Txt.slice z lo hi)) H):=by
 intro pins s σ H x v vl vu lo hi sl Q I rx hs pl pu h
 obtain ⟨z,rfl,hz,q⟩:=h
 obtain ⟨t,rfl⟩:=rx
 refine ⟨"str",_,F.slot_str_getitem.lookup,typeIs_str _ _ _,?_⟩
 obtain ⟨o,e,c,d⟩:=hs
 have fin : ∀ (t' : Tok) (k : Nat),EP X pins σ Q (.str (PySem.Txt.slice z lo hi) t') { s with toks:=k }:=fun t' k => ⟨.str _,H,I.tok k,⟨t',rfl⟩,q⟩
 cases pl with
 | none =>
  cases pu with
  | none => exact wpAny_getItem_str_slice (l:=none) (u:=none) (st:=none) ⟨o,e,c,d⟩ rfl (post_val_or_str ⟨Nat.le_trans (PySem.Txt.slice_le z _ _) hz,fin⟩)
  | int j uj => exact wpAny_getItem_str_slice (l:=none) (u:=some (j,uj)) (st:=none) ⟨o,e,c,d⟩ rfl (post_val_or_str ⟨Nat.le_trans (PySem.Txt.slice_le z _ _) hz,fin⟩)
 | int i ui =>
  cases pu with
  | none => exact wpAny_getItem_str_slice (l:=some (i,ui)) (u:=none) (st:=none) ⟨o,e,c,d⟩ rfl (post_val_or_str ⟨Nat.le_trans (PySem.Txt.slice_le z _ _) hz,fin⟩)
  | int j uj => exact wpAny_getItem_str_slice (l:=some (i,ui)) (u:=some (j,uj)) (st:=none) ⟨o,e,c,d⟩ rfl (post_val_or_str ⟨Nat.le_trans (PySem.Txt.slice_le z _ _) hz,fin⟩)
noncomputable def cut3 (ts : List T) (lo hi : Option Int) : List T:=(ts.drop (HT.sIx ts.length 0 lo)).take (HT.sIx ts.length ts.length hi - HT.sIx ts.length 0 lo)
def r3Sl : T -> Option Int -> Option Int -> Hp3 -> VK3 -> Prop:=fun x lo hi H Q => match x with
 | .ref a => match H a with
  | some (.lst ts) => ∀ p,H p = none -> Q (.ref p) (up3 H p (.lst (cut3 ts lo hi)))
  | some (.rol ts) => ∀ p,H p = none -> Q (.ref p) (up3 H p (.lst (cut3 ts lo hi)))
  | _ => False
 | .tup ts => ¬ (HT.sIx ts.length 0 lo = 0 /\ HT.sIx ts.length ts.length hi = ts.length) /\ Q (.tup (cut3 ts lo hi)) H
 | .str z => z.length <= sizeLine /\ Q (.str (PySem.Txt.slice z lo hi)) H
 | _ => False
def tSl3 (te : TE3) (tl th : TO3) : TE3:=fun σ H Q => te σ H fun x H1 => tl σ H1 fun l H2 => th σ H2 fun u H3 => r3Sl x l u H3 Q
theorem cut_rep {K : PySem.W.Frag} {H : Hp} {ts : List T} {xs : List V} (r : Reps K H ts xs) (lo hi : Option Int) : Reps K H (cut3 ts lo hi) (cutV xs lo hi):=by
 unfold cut3 cutV
 rw [<- r.length]
 exact (r.drop _).take _
theorem e3_slice {e : Expr} {lo hi : Option Expr} {te : TE3} {tl th : TO3} {p2 pos : Pos} (he : PE3 X e te) (hl : PO3 X lo tl) (hu : PO3 X hi th) : PE3 X (.Subscript e (.Slice lo hi none p2) pos) (tSl3 te tl th):=by
 refine PE.imp (pe_slice (sl_list.or (sl_tup.or sl_str)) he hl hu) ?_
 rintro σ H Q ⟨σ3,H3,Q3,ss,sh,h,k⟩
 refine ⟨σ3,H3,_,ss,sh,h,fun x H1 tx H31 le1 sh1 rx q1 => ⟨σ3,H31,_,ss.mono le1,sh1,q1,fun l H2 H32 le2 sh2 q2 => ⟨σ3,H32,_,ss.mono (le1.trans le2),sh2,q2,fun u H4 H34 le4 sh4 q4 => ?_⟩⟩⟩
 have k':=k.at (le1.trans (le2.trans le4))
 have rx':=rx.mono (le2.trans le4)
 cases tx with
 | ref a =>
  have h' : (match H34 a with
   | some (.lst ts) => ∀ p,H34 p = none -> Q3 (.ref p) (up3 H34 p (.lst (cut3 ts l u)))
   | some (.rol ts) => ∀ p,H34 p = none -> Q3 (.ref p) (up3 H34 p (.lst (cut3 ts l u)))
   | _ => False):=q4
  split at h'
  ·
   rename_i ts e
   obtain ⟨xs,sq,r⟩:=sh4.sqL (.inl e)
   exact .inl ⟨a,xs,rx'.ref,sq,fun p hp => k' _ _ _ _ (upd_tupLe hp) (sh4.newLst hp (cut_rep r l u)) .ofRef (h' p (sh4.fresh hp))⟩
  ·
   rename_i ts e
   obtain ⟨xs,sq,r⟩:=sh4.sqL (.inr e)
   exact .inl ⟨a,xs,rx'.ref,sq,fun p hp => k' _ _ _ _ (upd_tupLe hp) (sh4.newLst hp (cut_rep r l u)) .ofRef (h' p (sh4.fresh hp))⟩
  ·
   exact h'.elim
 | tup ts =>
  obtain ⟨a,xs,rfl,sq,r⟩:=rx'.tup
  refine .inr (.inl ⟨a,xs,rfl,sq,by rw [<- r.length]; exact q4.1,fun p hp => k' _ _ _ _ (upd_tupLe hp) (sh4.new hp) (SimH.newTup (H3:=H34) hp (cut_rep r l u)) q4.2⟩)
 | str z => exact .inr (.inr ⟨z,rx'.str,q4.1,k' _ _ _ _ .refl sh4 .ofStr q4.2⟩)
 | _ => exact q4.elim
noncomputable def look3 (k : Str) : List (Str × T) -> Option T
 | [] => none
 | (k',v) :: r => if k' = k then some v else look3 k r
noncomputable def put3 (k : Str) (v : T) (kvs : List (Str × T)) : List (Str × T) :=
 if (kvs.any fun kv => decide (kv.1 = k)) = true then kvs.map (fun kv => if kv.1 = k then (kv.1,v) else kv) else kvs ++ [(k,v)]
def r3D : R3:=fun x y H Q => match x,y with
 | .ref a,.str k => match H a with
  | some (.dct kvs) => oq (look3 k kvs) fun t => Q t H
  | _ => False
 | _,_ => False
theorem look_rep {K : PySem.W.Frag} {H : Hp} {k : Str} : ∀ {kvs : List (Str × T)} {vs : List (Key × V)} {t : T},RepD K H kvs vs -> look3 k kvs = some t -> ∃ v,valV vs (Sum.inr k : Key) = some v /\ Rep K H t v
 | [],_,_,_,e => by cases e
 | (k',t') :: r,_,t,.cons (b:=(kk,v')) ⟨e1,rv⟩ rr,e => by
  simp only at e1 rv
  subst e1
  unfold look3 at e
  by_cases hk : k' = k
  ·
   rw [if_pos hk] at e
   cases e
   exact ⟨v',by rw [valV_pos (by rw [hk])],rv⟩
  ·
   rw [if_neg hk] at e
   obtain ⟨v,ev,q⟩:=look_rep rr e
   exact ⟨v,by rw [valV_neg (by intro z; exact hk (Sum.inr.inj z))]; exact ev,q⟩
theorem e3_dget {o i : Expr} {to ti : TE3} {pos : Pos} (hu : X.A.units + 1 < cLine) (ho : PE3 X o to) (hi : PE3 X i ti) (hs : NoSl i:=by exact fun _ _ => rfl) : PE3 X (.Subscript o i pos) (tOp3 r3D to ti):=by
 refine PE.imp (pe_dget hu ho hi hs) ?_
 rintro σ H Q ⟨σ3,H3,Q3,ss,sh,h,k⟩
 refine ⟨σ3,H3,_,ss,sh,h,fun x H1 tx H31 le1 sh1 rx q1 => ⟨σ3,H31,_,ss.mono le1,sh1,q1,fun y H2 ty H32 le2 sh2 ry q2 => ?_⟩⟩
 cases tx with
 | ref a =>
  cases ty with
  | str key =>
   have h' : (match H32 a with
    | some (.dct kvs) => oq (look3 key kvs) fun t => Q3 t H32
    | _ => False):=q2
   split at h'
   ·
    rename_i kvs e
    obtain ⟨vs,hH,r⟩:=sh2 a _ e
    cases el : look3 key kvs with
    | none => rw [el] at h'; exact h'.elim
    | some t =>
     rw [el] at h'
     obtain ⟨v,ev,rv⟩:=look_rep r el
     refine ⟨a,v,rx.ref,?_,k.at (le1.trans le2) _ _ _ _ .refl sh2 rv h'⟩
     rw [ry.str,<- ev]
     exact DGet.k (k:=Sum.inr key) hH
   ·
    exact h'.elim
  | _ => exact q2.elim
 | _ => exact q2.elim
def sDPut3 (td ty tv : TE3) : TS3:=fun D σ H => tv σ H fun v H1 => td σ H1 fun x H2 => ty σ H2 fun y H3 => match x,y with
 | .ref a,.str k => match H3 a with
  | some (.dct kvs) => kvs.length < sizeLine /\ D.nx σ (up3 H3 a (.dct (put3 k v kvs)))
  | _ => False
 | _,_ => False
theorem put_rep {K : PySem.W.Frag} {H : Hp} {k : Str} {t : T} {v : V} (rv : Rep K H t v) {kvs : List (Str × T)} {vs : List (Key × V)} (r : RepD K H kvs vs) : RepD K H (put3 k t kvs) (putK vs (Sum.inr k : Key) v):=by
 have e : ∀ {kvs : List (Str × T)} {vs : List (Key × V)},RepD K H kvs vs -> (kvs.any fun kv => decide (kv.1 = k)) = (vs.any fun kv => decide (kv.1 = (Sum.inr k : Key))) /\ RepD K H (kvs.map (fun kv => if kv.1 = k then (kv.1,t) else kv)) (vs.map (fun kv => if kv.1 = (Sum.inr k : Key) then (kv.1,v) else kv)):=by
  intro kvs
  induction kvs with
  | nil => intro vs r; cases r; exact ⟨rfl,.nil⟩
  | cons p l ih =>
   intro vs r
   cases r with
   | cons q rr =>
    rename_i b l2
    obtain ⟨e1,e2⟩:=ih rr
    obtain ⟨q1,q2⟩:=q
    obtain ⟨bk,bv⟩:=b
    simp only at q1 q2
    subst q1
    by_cases hk : p.1 = k
    ·
     refine ⟨by simp [hk],?_⟩
     simp only [List.map_cons,hk,if_true]
     exact .cons ⟨rfl,rv⟩ e2
    ·
     have hk' : ¬ (Sum.inr p.1 : Key) = Sum.inr k:=fun z => hk (Sum.inr.inj z)
     refine ⟨by simp only [List.any_cons,hk,hk',decide_false,Bool.false_or]; exact e1,?_⟩
     simp only [List.map_cons,hk,hk',if_false]
     exact .cons ⟨rfl,q2⟩ e2
 obtain ⟨e1,e2⟩:=e r
 unfold put3 putK
 rw [e1]
 split
 ·
  exact e2
 ·
  have app : ∀ {a : List (Str × T)} {b : List (Key × V)},RepD K H a b -> RepD K H (a ++ [(k,t)]) (b ++ [((Sum.inr k : Key),v)]):=fun h => Paired.snoc h ⟨rfl,rv⟩
  exact app r
theorem SimH.wrD {K : PySem.W.Frag} {H : Hp} {H3 : Hp3} {a : Addr} {kv : List (Key × V)} {kvs : List (Str × T)} {kv' : List (Key × V)} (s : SimH K H3 H) (hH : H a = some (.dK kv)) (r : RepD K H kvs kv') : SimH K (up3 H3 a (.dct kvs)) (upd H a (.dK kv')):=fun b o e => by
 have le : TupLe K H (upd H a (.dK kv')):=wr_tupLe (by rw [hH]; exact trivial)
 by_cases hb : b = a
 ·
  subst hb
  rw [up3_same] at e; cases e
  exact ⟨kv',upd_same,r.mono le⟩
 ·
  rw [up3_ne hb] at e
  exact (s b o e).stay le fun u q => by rw [upd_ne hb]; exact q
theorem s3_dput {o i value : Expr} {td ty tv : TE3} {pos pos' : Pos} (hu : X.A.units + 1 < cLine) (ho : PE3 X o td) (hi : PE3 X i ty) (hv : PE3 X value tv) (hs : swapsWith value (some (.Subscript o i pos')) pos.line X.env = pure false:=by rfl) :
  PS3 X (.Assign [.Subscript o i pos'] value pos) (sDPut3 td ty tv):=by
 refine PS.imp (ps_dput hu ho hi hv hs) ?_
 rintro D σ H ⟨σ3,H3,D3,ss,sh,h,k1,_⟩
 refine ⟨σ3,H3,_,ss,sh,h,fun v H1 tv H31 le1 sh1 rv q1 => ⟨σ3,H31,_,ss.mono le1,sh1,q1,fun x H2 tx H32 le2 sh2 rx q2 => ⟨σ3,H32,_,ss.mono (le1.trans le2),sh2,q2,fun y H4 ty H34 le4 sh4 ry q4 => ?_⟩⟩⟩
 cases tx with
 | ref a =>
  cases ty with
  | str key =>
   have h' : (match H34 a with
    | some (.dct kvs) => kvs.length < sizeLine /\ D3.nx σ3 (up3 H34 a (.dct (put3 key tv kvs)))
    | _ => False):=q4
   split at h'
   ·
    rename_i kvs e
    obtain ⟨vs,hH,r⟩:=sh4 a _ e
    have rvv:=rv.mono (le2.trans le4)
    have le5 : TupLe X.K H4 (upd H4 a (.dK (putK vs (Sum.inr key : Key) v))):=wr_tupLe (by rw [hH]; exact trivial)
    refine ⟨a,_,(rx.mono le4).ref,?_,k1 _ _ _ _ (le1.trans (le2.trans (le4.trans le5))) (ss.mono (le1.trans (le2.trans (le4.trans le5)))) (sh4.wrD hH (put_rep rvv r)) h'.2⟩
    rw [ry.str]
    exact DPut.k (k:=Sum.inr key) hH (by rw [<- Paired.length r]; exact h'.1)
   ·
    exact h'.elim
  | _ => exact q4.elim
 | _ => exact q4.elim
def prs3 : List (Str × TE3) -> St3 -> Hp3 -> (List (Str × T) -> Hp3 -> Prop) -> Prop
 | [],_,H,Q => Q [] H
 | (k,tv) :: r,σ,H,Q => tv σ H fun y H2 => prs3 r σ H2 fun ps H3 => Q ((k,y) :: ps) H3
noncomputable def mrg3 (kvs more : List (Str × T)) : List (Str × T):=more.foldl (fun acc kv => put3 kv.1 kv.2 acc) kvs
def tDisp3 (trs : List (Str × TE3)) : TE3:=fun σ H Q => ∀ p,H p = none -> prs3 trs σ (up3 H p (.dct [])) fun ps H2 => H2 p = some (.dct []) /\ ps.length <= 15 /\ Q (.ref p) (up3 H2 p (.dct (mrg3 [] ps)))
end
end L3
namespace L3
open PySem PySem.Spec PyProof.Rows L2
section
variable {X : Cx} {x : Str} {p pos : Pos} {e : Expr} {es : List Expr} {t : TA3} {id Ty : String} {r : List T -> Hp3 -> VK3 -> Prop}
def tCB3 (r : List T -> Hp3 -> VK3 -> Prop) (t : TA3) : TE3:=fun σ H Q => t σ H fun vs H1 => r vs H1 Q
theorem e3_callB (hc : CallR3 X (.builtin id) r) (hg : Gl X x) (hm : X.mg x = none) (hv : bootBuiltins x = some (.builtin id)) (ha : PA3 X (e :: es) t) (hn : x ≠ "__name__":=by decide) (hdb : (x == ("__debug__" : Str)) = false:=by decide)
  (he : starEach (e :: es) X.env = (false,eval e X.env) :: starEach es X.env:=by rfl) (hpl : (backTo pos (starEach es X.env)).any (·.1) = false:=by rfl) : PE3 X (.Call (.Name x p) (e :: es) [] pos) (tCB3 r t):=by
 refine PE.imp (pe_callB hc hg hm hv ha hn hdb he hpl) ?_
 rintro σ H Q ⟨σ3,H3,Q3,ss,sh,h,k⟩
 exact ⟨σ3,H3,_,ss,sh,h,fun vs H' ts H3' le sh' r q => ⟨ts,H3',Q3,r,sh',q,k.at le⟩⟩
theorem e3_callTy (hc : CallR3 X (.type Ty) r) (hg : Gl X x) (hm : X.mg x = none) (hv : bootBuiltins x = some (.type Ty)) (ha : PA3 X (e :: es) t) (hn : x ≠ "__name__":=by decide) (hdb : (x == ("__debug__" : Str)) = false:=by decide)
  (he : starEach (e :: es) X.env = (false,eval e X.env) :: starEach es X.env:=by rfl) (hpl : (backTo pos (starEach es X.env)).any (·.1) = false:=by rfl) : PE3 X (.Call (.Name x p) (e :: es) [] pos) (tCB3 r t):=by
 refine PE.imp (pe_callTy hc hg hm hv ha hn hdb he hpl) ?_
 rintro σ H Q ⟨σ3,H3,Q3,ss,sh,h,k⟩
 exact ⟨σ3,H3,_,ss,sh,h,fun vs H' ts H3' le sh' r q => ⟨ts,H3',Q3,r,sh',q,k.at le⟩⟩
theorem b3_ty {n : String} (hg : Gl X x) (hm : X.mg x = none) (hv : bootBuiltins x = some (.type n)) (hn : x ≠ "__name__":=by decide) (hdb : (x == ("__debug__" : Str)) = false:=by decide) : PE3 X (.Name x pos) (tC3 (.ty n)):=by
 refine PE.imp (pe_bltn (v:=.ty n) hg hm hv rfl hn hdb) ?_
 rintro σ H Q ⟨σ3,H3,Q3,ss,sh,h,k⟩
 exact k _ _ _ H3 .refl sh .ofTy h
theorem Reps.one' {K : PySem.W.Frag} {H : Hp} {t : T} {vs : List V} (r : Reps K H [t] vs) : ∃ v,vs = [v] /\ Rep K H t v:=by
 obtain ⟨v,_,rfl,a,b⟩:=r.inv
 rw [b.inv0]
 exact ⟨v,rfl,a⟩
theorem Reps.two' {K : PySem.W.Frag} {H : Hp} {t u : T} {vs : List V} (r : Reps K H [t,u] vs) : ∃ v w,vs = [v,w] /\ Rep K H t v /\ Rep K H u w:=by
 obtain ⟨v,_,rfl,a,b⟩:=r.inv
 obtain ⟨w,rfl,c⟩:=b.one'
 exact ⟨v,w,rfl,a,c⟩
def r3Len : List T -> Hp3 -> VK3 -> Prop:=fun ts H Q => match ts with
 | [.ref a] => match H a with
  | some (.lst xs) => Q (.int xs.length) H
  | some (.rol xs) => Q (.int xs.length) H
  | _ => False
 | [.tup xs] => Q (.int xs.length) H
 | [.str z] => z.length <= sizeLine /\ Q (.int z.length) H
 | _ => False
theorem c3_len : CallR3 X (.builtin "len") r3Len:=by
 refine CallR.imp (call_len_seq.or call_len_str) ?_
 rintro xs H Q ⟨ts,H3,Q3,r,sh,h,k⟩
 match ts,h,r with
 | [.ref a],h,r =>
  obtain ⟨v,rfl,rv⟩:=r.one'
  have h' : (match H3 a with
   | some (.lst xs) => Q3 (.int xs.length) H3
   | some (.rol xs) => Q3 (.int xs.length) H3
   | _ => False):=h
  split at h'
  ·
   rename_i us e
   obtain ⟨ys,sq,rs⟩:=sh.sqL (.inl e)
   exact .inl ⟨a,ys,by rw [rv.ref],.inl sq,by rw [<- rs.length]; exact k _ _ _ _ .refl sh .ofInt h'⟩
  ·
   rename_i us e
   obtain ⟨ys,sq,rs⟩:=sh.sqL (.inr e)
   exact .inl ⟨a,ys,by rw [rv.ref],.inl sq,by rw [<- rs.length]; exact k _ _ _ _ .refl sh .ofInt h'⟩
  ·
   exact h'.elim
 | [.tup us],h,r =>
  obtain ⟨v,rfl,rv⟩:=r.one'
  obtain ⟨a,ys,rfl,sq,rs⟩:=rv.tup
  exact .inl ⟨a,ys,rfl,.inr sq,by rw [<- rs.length]; exact k _ _ _ _ .refl sh .ofInt h⟩
 | [.str z],h,r =>
  obtain ⟨v,rfl,rv⟩:=r.one'
  exact .inr ⟨z,by rw [rv.str],h.1,k _ _ _ _ .refl sh .ofInt h.2⟩
def r3List : List T -> Hp3 -> VK3 -> Prop:=fun ts H Q => match ts with
 | [.ref a] => match H a with
  | some (.lst xs) => ∀ p,H p = none -> Q (.ref p) (up3 H p (.lst xs))
  | some (.rol xs) => ∀ p,H p = none -> Q (.ref p) (up3 H p (.lst xs))
  | _ => False
 | [.tup xs] => ∀ p,H p = none -> Q (.ref p) (up3 H p (.lst xs))
 | _ => False
theorem c3_list : CallR3 X (.type "list") r3List:=by
 refine CallR.imp call_list_of ?_
 rintro xs H Q ⟨ts,H3,Q3,r,sh,h,k⟩
 match ts,h,r with
 | [.ref a],h,r =>
  obtain ⟨v,rfl,rv⟩:=r.one'
  have h' : (match H3 a with
   | some (.lst xs) => ∀ p,H3 p = none -> Q3 (.ref p) (up3 H3 p (.lst xs))
   | some (.rol xs) => ∀ p,H3 p = none -> Q3 (.ref p) (up3 H3 p (.lst xs))
   | _ => False):=h
  split at h'
  ·
   rename_i us e
   obtain ⟨ys,sq,rs⟩:=sh.sqL (.inl e)
   exact ⟨a,ys,by rw [rv.ref],.inl sq,fun l hl => k _ _ _ _ (upd_tupLe hl) (sh.newLst hl rs) .ofRef (h' l (sh.fresh hl))⟩
  ·
   rename_i us e
   obtain ⟨ys,sq,rs⟩:=sh.sqL (.inr e)
   exact ⟨a,ys,by rw [rv.ref],.inl sq,fun l hl => k _ _ _ _ (upd_tupLe hl) (sh.newLst hl rs) .ofRef (h' l (sh.fresh hl))⟩
  ·
   exact h'.elim
 | [.tup us],h,r =>
  obtain ⟨v,rfl,rv⟩:=r.one'
  obtain ⟨a,ys,rfl,sq,rs⟩:=rv.tup
  exact ⟨a,ys,rfl,.inr sq,fun l hl => k _ _ _ _ (upd_tupLe hl) (sh.newLst hl rs) .ofRef (h l (sh.fresh hl))⟩
def r3Tuple : List T -> Hp3 -> VK3 -> Prop:=fun ts H Q => match ts with
 | [.ref a] => match H a with
  | some (.lst xs) => Q (.tup xs) H
  | some (.rol xs) => Q (.tup xs) H
  | _ => False
 | [.tup xs] => Q (.tup xs) H
 | _ => False
theorem c3_tuple : CallR3 X (.type "tuple") r3Tuple:=by
 refine CallR.imp call_tuple_of ?_
 rintro xs H Q ⟨ts,H3,Q3,r,sh,h,k⟩
 match ts,h,r with
 | [.ref a],h,r =>
  obtain ⟨v,rfl,rv⟩:=r.one'
  have h' : (match H3 a with
   | some (.lst xs) => Q3 (.tup xs) H3
   | some (.rol xs) => Q3 (.tup xs) H3
   | _ => False):=h
  split at h'
  ·
   rename_i us e
   obtain ⟨ys,sq,rs⟩:=sh.sqL (.inl e)
   exact ⟨a,ys,by rw [rv.ref],.inl ⟨sq,fun l hl => k _ _ _ _ (upd_tupLe hl) (sh.new hl) (SimH.newTup (H3:=H3) hl rs) h'⟩⟩
  ·
   rename_i us e
   obtain ⟨ys,sq,rs⟩:=sh.sqL (.inr e)
   exact ⟨a,ys,by rw [rv.ref],.inl ⟨sq,fun l hl => k _ _ _ _ (upd_tupLe hl) (sh.new hl) (SimH.newTup (H3:=H3) hl rs) h'⟩⟩
  ·
   exact h'.elim
 | [.tup us],h,r =>
  obtain ⟨v,rfl,rv⟩:=r.one'
  obtain ⟨a,ys,rfl,sq,rs⟩:=rv.tup
  exact ⟨a,ys,rfl,.inr ⟨sq,k _ _ _ _ .refl sh (.ofTup sq rs) h⟩⟩
def r3Int : List T -> Hp3 -> VK3 -> Prop:=fun ts H Q => match ts with
 | [.int i] => Q (.int i) H
 | [.bl b] => Q (.int (if b then 1 else 0)) H
 | _ => False
theorem c3_int' : CallR3 X (.type "int") r3Int:=by
 refine CallR.imp call_int1 ?_
 rintro xs H Q ⟨ts,H3,Q3,r,sh,h,k⟩
 match ts,h,r with
 | [.int i],h,r =>
  obtain ⟨v,rfl,rv⟩:=r.one'
  exact .inl ⟨i,by rw [rv.int],k _ _ _ _ .refl sh .ofInt h⟩
 | [.bl b],h,r =>
  obtain ⟨v,rfl,rv⟩:=r.one'
  exact .inr ⟨b,by rw [rv.bl],k _ _ _ _ .refl sh .ofInt h⟩
def r3Str : List T -> Hp3 -> VK3 -> Prop:=fun ts H Q => match ts with
 | [.int i] => i.natAbs.log2 < 1920 /\ Q (.str (toString i)) H
 | _ => False
noncomputable def ints3 : List T -> Option (List Int)
 | [] => some []
 | .int i :: r => (ints3 r).map (i :: ·)
 | _ => none
theorem ints3_map : ∀ (ns : List Int),ints3 (ns.map T.int) = some ns
 | [] => rfl
 | n :: r => by simp [ints3,ints3_map r]
theorem ints3_vals {K : PySem.W.Frag} {H : Hp} : ∀ {ts : List T} {xs : List V} {us : List Value} {ns : List Int},ints3 ts = some ns -> Reps K H ts xs -> Vals xs us -> IntsAre us ns
 | [],xs,us,ns,e,r,v => by
  cases e
  rw [r.inv0] at v
  cases v
  exact .nil
 | .int i :: l,xs,us,ns,e,r,v => by
  obtain ⟨x,xr,rfl,rx,rr⟩:=r.inv
  cases v with
  | cons a b =>
   rw [rx.int] at a
   obtain ⟨t,rfl⟩:=a
   cases hl : ints3 l with
   | none => simp [ints3,hl] at e
   | some ms =>
    simp [ints3,hl] at e
    subst e
    exact .cons _ _ (ints3_vals hl rr b)
 | .non :: _,_,_,_,e,_,_ => by simp [ints3] at e
 | .bl _ :: _,_,_,_,e,_,_ => by simp [ints3] at e
 | .str _ :: _,_,_,_,e,_,_ => by simp [ints3] at e
 | .tup _ :: _,_,_,_,e,_,_ => by simp [ints3] at e
 | .ref _ :: _,_,_,_,e,_,_ => by simp [ints3] at e
 | .ty _ :: _,_,_,_,e,_,_ => by simp [ints3] at e
def r3Sum : List T -> Hp3 -> VK3 -> Prop:=fun ts H Q => match ts with
 | [.ref a] => match H a with
  | some (.lst xs) => oq (ints3 xs) fun ns => Q (.int ns.sum) H
  | some (.rol xs) => oq (ints3 xs) fun ns => Q (.int ns.sum) H
  | _ => False
 | _ => False
theorem c3_sum (hc : X.calm = true) : CallR3 X (.builtin "sum") r3Sum:=by
 intro pins s σ H xs us Q I rv h
 obtain ⟨ts,H3,Q3,r,sh,h,k⟩:=h
 match ts,h,r with
 | [.ref a],h,r =>
  obtain ⟨v,rfl,rv'⟩:=r.one'
  obtain ⟨u,rfl,ru⟩:=vals1 rv
  rw [rv'.ref] at ru
  cases ru
  have main : ∀ {ls : List T} {ys : List V},SqL X.K H a ys -> Reps X.K H ls ys -> oq (ints3 ls) (fun ns => Q3 (.int ns.sum) H3) -> wpAny (model X.prog X.w) X.A (call (.builtin "sum") [.ref a]) (EP X pins σ Q) X.xe s:=by
   intro ls ys sq rs q
   cases e : ints3 ls with
   | none => rw [e] at q; exact q.elim
   | some ns =>
    rw [e] at q
    obtain ⟨its,rvs,hl,_⟩:=I.list sq
    have hi:=ints3_vals e rs rvs
    have hall : AllInts its.toArray:=hi.allInts
    obtain ⟨zs,ez⟩:=hall.items
    have hls : s.heap.IsList a (intItems zs):=by rw [<- ez]; exact hl.isList
    refine sum_intListG (I.ok.hd hc) hls fun h' tk t' hk => ?_
    have es : preSum (numAt zs) zs.size = ns.sum:=by
     have e1:=nums_intItems zs
     rw [<- ez,show its.toArray.toList = its from rfl,hi.numsOf] at e1
     rw [preSum_eq,List.take_of_length_le (by simp),<- e1]
    rw [es]
    exact ⟨.int ns.sum,H,I.kept hk,⟨t',rfl⟩,k _ _ _ _ .refl sh .ofInt q⟩
  have h' : (match H3 a with
   | some (.lst xs) => oq (ints3 xs) fun ns => Q3 (.int ns.sum) H3
   | some (.rol xs) => oq (ints3 xs) fun ns => Q3 (.int ns.sum) H3
   | _ => False):=h
  split at h'
  ·
   rename_i ls e
   obtain ⟨ys,sq,rs⟩:=sh.sqL (.inl e)
   exact main sq rs h'
  ·
   rename_i ls e
   obtain ⟨ys,sq,rs⟩:=sh.sqL (.inr e)
   exact main sq rs h'
  ·
   exact h'.elim
noncomputable def isT (n : String) : T -> Hp3 -> Option Bool:=fun x H => match x with
 | .non => some (n == "NoneType")
 | .bl _ => some (n == "bool" || n == "int")
 | .int _ => some (n == "int")
 | .str _ => some (n == "str")
 | .tup _ => some (n == "tuple")
 | .ref a => match H a with
  | some (.lst _) => some (n == "list")
  | some (.dct _) => some (n == "dict")
  | _ => none
 | .ty _ => none
def r3Isi : List T -> Hp3 -> VK3 -> Prop:=fun ts H Q => match ts with
 | [x,.ty n] => (n = "str" \/ n = "int" \/ n = "bool" \/ n = "tuple" \/ n = "list") /\ oq (isT n x H) fun b => Q (.bl b) H
 | _ => False
theorem kit_ty (K : PySem.W.Frag) (a b : String) (ha : a = "NoneType" \/ a = "bool" \/ a = "int" \/ a = "str" \/ a = "tuple" \/ a = "list" \/ a = "dict") (hb : b = "str" \/ b = "int" \/ b = "bool" \/ b = "tuple" \/ b = "list") :
  PySem.W.kitOne K (.type a) (.type b) = some (a == b || (a == "bool" && b == "int")):=by
 rcases ha with rfl | rfl | rfl | rfl | rfl | rfl | rfl <;> rcases hb with rfl | rfl | rfl | rfl | rfl <;> rfl
theorem c3_isi : CallR3 X (.builtin "isinstance") r3Isi:=by
 intro pins s σ H xs us Q I rv h
 obtain ⟨ts,H3,Q3,r,sh,h,k⟩:=h
 match ts,h,r with
 | [x,.ty n],h,r =>
  obtain ⟨v,w,rfl,r1,r2⟩:=r.two'
  obtain ⟨u1,u2,rfl,q1,q2⟩:=vals2 rv
  rw [r2.ty] at q2
  cases q2
  obtain ⟨hn,h⟩:=h
  have fin : ∀ {b : Bool},Q3 (.bl b) H3 -> ∀ tk,EP X pins σ Q (.bool b) { s with toks:=tk }:=fun q tk => ⟨.bl _,H,I.tok tk,rfl,k _ _ _ _ .refl sh .ofBl q⟩
  cases x with
  | non => exact isinst_ok I q1 (by rw [r1.non]; exact .non) (kit_ty X.K "NoneType" n (by simp) hn) (fin (by rcases hn with rfl | rfl | rfl | rfl | rfl <;> exact h))
  | bl b => exact isinst_ok I q1 (by rw [r1.bl]; exact .bl b) (kit_ty X.K "bool" n (by simp) hn) (fin (by rcases hn with rfl | rfl | rfl | rfl | rfl <;> exact h))
  | int i => exact isinst_ok I q1 (by rw [r1.int]; exact .int i) (kit_ty X.K "int" n (by simp) hn) (fin (by rcases hn with rfl | rfl | rfl | rfl | rfl <;> exact h))
  | str z => exact isinst_ok I q1 (by rw [r1.str]; exact .str z) (kit_ty X.K "str" n (by simp) hn) (fin (by rcases hn with rfl | rfl | rfl | rfl | rfl <;> exact h))
  | tup us =>
   obtain ⟨a,ys,rfl,sq,rs⟩:=r1.tup
   cases q1
   obtain ⟨its,_,⟨o,h1,h2,_⟩,_⟩:=I.tuple sq
   exact PySem.W.kia_one PySem.W.kitx_tuple I.kIn ⟨o,h1,h2⟩ (kit_ty X.K "tuple" n (by simp) hn) (fun z => nomatch z) (fin (by rcases hn with rfl | rfl | rfl | rfl | rfl <;> exact h))
  | ref a =>
   have h' : oq (match H3 a with
    | some (.lst _) => some (n == "list")
    | some (.dct _) => some (n == "dict")
    | _ => none) fun b => Q3 (.bl b) H3:=h
   rw [r1.ref] at q1
   cases e : H3 a with
   | none => rw [e] at h'; exact h'.elim
   | some o =>
    rw [e] at h'
    cases o with
    | lst ls =>
     obtain ⟨zs,hH,_⟩:=sh a _ e
     exact isinst_ok I q1 (.lst hH) (kit_ty X.K "list" n (by simp) hn) (fin (by rcases hn with rfl | rfl | rfl | rfl | rfl <;> exact h'))
    | dct ls =>
     obtain ⟨zs,hH,_⟩:=sh a _ e
     exact isinst_ok I q1 (.dK hH) (kit_ty X.K "dict" n (by simp) hn) (fin (by rcases hn with rfl | rfl | rfl | rfl | rfl <;> exact h'))
    | rol ls => exact h'.elim
    | dcp ls => exact h'.elim
  | ty m => exact h.elim
variable {o : Expr} {to : TE3} {name : Str} {apos cpos : Pos} {m : T -> List T -> Hp3 -> VK3 -> Prop}
def ty3 (Ty : String) : T -> Hp3 -> Prop:=fun x H => match x with
 | .str _ => Ty = "str"
 | .tup _ => Ty = "tuple"
 | .ref a => Ty = "list" /\ match H a with
  | some (.lst _) => True
  | some (.rol _) => True
  | _ => False
 | _ => False
theorem ty3_V {K : PySem.W.Frag} {H : Hp} {H3 : Hp3} {t : T} {v : V} (sh : SimH K H3 H) (r : Rep K H t v) (h : ty3 Ty t H3) : tyV K Ty v H:=by
 cases t with
 | str z => rw [r.str]; exact h
 | tup ts =>
  obtain ⟨a,xs,rfl,sq,_⟩:=r.tup
  exact .inr (.inl ⟨h,xs,sq⟩)
 | ref a =>
  rw [r.ref]
  refine .inl ⟨h.1,?_⟩
  have h2:=h.2
  cases e : H3 a with
  | none => rw [e] at h2; exact h2.elim
  | some o =>
   rw [e] at h2
   cases o with
   | lst ts => obtain ⟨xs,sq,_⟩:=sh.sqL (.inl e); exact ⟨xs,sq⟩
   | rol ts => obtain ⟨xs,sq,_⟩:=sh.sqL (.inr e); exact ⟨xs,sq⟩
   | dct _ => exact h2.elim
   | dcp _ => exact h2.elim
 | _ => exact h.elim
def tBM3 (Ty : String) (m : T -> List T -> Hp3 -> VK3 -> Prop) (to : TE3) (t : TA3) : TE3:=fun σ H Q => to σ H fun x H1 => ty3 Ty x H1 /\ t σ H1 fun xs H2 => m x xs H2 Q
theorem e3_bm (pa : PlainAttrs Ty) (slot : Slot Ty name id) (hty : typeOf (.builtin id) = pure (.type "method_descriptor")) (hm : MtR3 X id m) (ho : PE3 X o to) (ha : PA3 X (e :: es) t)
  (hbase : attributeBase o name X.env (eval o X.env) = eval o X.env:=by rfl)
  (hfew : ((backTo cpos (starEach (e :: es) X.env)).all (fun x => !x.1) && (backToKw cpos (keywordEach [] X.env)).all (fun x => x.1.isSome)
   && decide ((e :: es).length + ([] : List Keyword).length + (if ([] : List Keyword).isEmpty then 0 else 1) < 30)) = true:=by rfl)
  (hline : (apos.endLine == cpos.line) = true:=by rfl) (hs : starEach (e :: es) X.env = (false,eval e X.env) :: starEach es X.env:=by rfl) (hplain : (backTo cpos (starEach es X.env)).any (·.1) = false:=by rfl) :
  PE3 X (.Call (.Attribute o name apos) (e :: es) [] cpos) (tBM3 Ty m to t):=by
 refine PE.imp (pe_bm pa slot hty hm ho ha hbase hfew hline hs hplain) ?_
 rintro σ H Q ⟨σ3,H3,Q3,ss,sh,h,k⟩
 exact ⟨σ3,H3,_,ss,sh,h,fun x H1 tx H31 le1 sh1 rx q1 => ⟨ty3_V sh1 rx q1.1,σ3,H31,_,ss.mono le1,sh1,q1.2,fun vs H2 ts H32 le2 sh2 rs q2 => ⟨tx,ts,H32,Q3,rx.mono le2,rs,sh2,q2,k.at (le1.trans le2)⟩⟩⟩
def r3App : T -> List T -> Hp3 -> VK3 -> Prop:=fun x ts H Q => match x,ts with
 | .ref a,[t] => match H a with
  | some (.lst xs) => xs.length < sizeLine /\ Q .non (up3 H a (.lst (xs ++ [t])))
  | _ => False
 | _,_ => False
theorem m3_append : MtR3 X "list.append" r3App:=by
 refine MtR.imp mt_append ?_
 rintro x xs H Q ⟨tx,ts,H3,Q3,rx,rs,sh,h,k⟩
 match tx,ts,h,rx,rs with
 | .ref a,[t],h,rx,rs =>
  obtain ⟨v,rfl,rv⟩:=rs.one'
  have h' : (match H3 a with
   | some (.lst xs) => xs.length < sizeLine /\ Q3 .non (up3 H3 a (.lst (xs ++ [t])))
   | _ => False):=h
  split at h'
  ·
   rename_i ls e
   obtain ⟨ys,hH,r⟩:=sh a _ e
   exact ⟨a,ys,v,rx.ref,rfl,hH,by rw [<- r.length]; exact h'.1,k _ _ _ _ (wr_tupLe (by rw [hH]; exact trivial)) (sh.wrL hH (r.append (.cons rv .nil))) .ofNon h'.2⟩
  ·
   exact h'.elim
def r3Ext : T -> List T -> Hp3 -> VK3 -> Prop:=fun x ts H Q => match x,ts with
 | .ref a,[.ref b] => match H a,H b with
  | some (.lst xs),some (.lst ys) => xs.length + ys.length <= sizeLine /\ Q .non (up3 H a (.lst (xs ++ ys)))
  | _,_ => False
 | _,_ => False
def r3PopAt : T -> List T -> Hp3 -> VK3 -> Prop:=fun x ts H Q => match x,ts with
 | .ref a,[.int i] => match H a with
  | some (.lst xs) => oq (ixN xs.length i) fun j => oq (xs[j]?) fun t => Q t (up3 H a (.lst (xs.eraseIdx j)))
  | _ => False
 | _,_ => False
theorem m3_popAt : MtR3 X "list.pop" r3PopAt:=by
 intro pins s σ H x xs v us Q I rx0 rs0 hh
 obtain ⟨tx,ts,H3,Q3,rx,rs,sh,h,k⟩:=hh
 refine mt_popAt pins s σ H x xs v us Q I rx0 rs0 ?_
 match tx,ts,h,rx,rs with
 | .ref a,[.int i],h,rx,rs =>
  obtain ⟨w,rfl,rv⟩:=rs.one'
  have h' : (match H3 a with
   | some (.lst xs) => oq (ixN xs.length i) fun j => oq (xs[j]?) fun t => Q3 t (up3 H3 a (.lst (xs.eraseIdx j)))
   | _ => False):=h
  split at h'
  ·
   rename_i ls e
   obtain ⟨ys,hH,r⟩:=sh a _ e
   have hz:=(I.lstM hH).1
   cases ej : ixN ls.length i with
   | none => rw [ej] at h'; exact h'.elim
   | some j =>
    rw [ej] at h'
    cases et : ls[j]? with
    | none => simp only [oq,et] at h'
    | some t =>
     have h2 : Q3 t (up3 H3 a (.lst (ls.eraseIdx j))):=by simpa only [oq,et] using h'
     obtain ⟨g1,g2,g3,g4⟩:=ixN_seq ej
     obtain ⟨y,ey,ry⟩:=r.get et
     have hl:=r.length
     have hb:=line63
     have le : TupLe X.K H (upd H a (.lst (ys.eraseIdx j))):=wr_tupLe (by rw [hH]; exact trivial)
     exact ⟨a,ys,i,j,y,rx.ref,by rw [rv.int],hH,by omega,by omega,by rw [<- hl]; exact g1,ey,k _ _ _ _ le (sh.wrL hH (r.eraseIdx j)) (ry.mono le) h2⟩
  ·
   exact h'.elim
noncomputable def strs3 : List T -> Option (List Str)
 | [] => some []
 | .str x :: r => (strs3 r).map (x :: ·)
 | _ => none
theorem strs3_map : ∀ (ns : List Str),strs3 (ns.map T.str) = some ns
 | [] => rfl
 | n :: r => by simp [strs3,strs3_map r]
theorem strs3_vals {K : PySem.W.Frag} {H : Hp} : ∀ {ts : List T} {xs : List V} {us : List Value} {ns : List Str},strs3 ts = some ns -> Reps K H ts xs -> Vals xs us -> StrsAre us ns
 | [],xs,us,ns,e,r,v => by
  cases e
  rw [r.inv0] at v
  cases v
  exact .nil
 | .str i :: l,xs,us,ns,e,r,v => by
  obtain ⟨x,xr,rfl,rx,rr⟩:=r.inv
  cases v with
  | cons a b =>
   rw [rx.str] at a
   obtain ⟨t,rfl⟩:=a
   cases hl : strs3 l with
   | none => simp [strs3,hl] at e
   | some ms =>
    simp [strs3,hl] at e
    subst e
    exact .cons _ _ (strs3_vals hl rr b)
 | .non :: _,_,_,_,e,_,_ => by simp [strs3] at e
 | .bl _ :: _,_,_,_,e,_,_ => by simp [strs3] at e
 | .int _ :: _,_,_,_,e,_,_ => by simp [strs3] at e
 | .tup _ :: _,_,_,_,e,_,_ => by simp [strs3] at e
 | .ref _ :: _,_,_,_,e,_,_ => by simp [strs3] at e
 | .ty _ :: _,_,_,_,e,_,_ => by simp [strs3] at e
end
end L3
namespace L3
open PySem PySem.Spec PyProof.Rows L2
section
variable {X : Cx}
def jOk (z : Str) (ys : List Str) : Prop:=(ys.map (·.length)).sum + ys.length * z.length <= 16777216
def r3Join : T -> List T -> Hp3 -> VK3 -> Prop:=fun x ts H Q => match x,ts with
 | .str z,[.ref a] => match H a with
  | some (.lst xs) => oq (strs3 xs) fun ys => jOk z ys /\ Q (.str (PySem.Txt.join z ys)) H
  | some (.rol xs) => oq (strs3 xs) fun ys => jOk z ys /\ Q (.str (PySem.Txt.join z ys)) H
  | _ => False
 | .str z,[.tup xs] => oq (strs3 xs) fun ys => jOk z ys /\ Q (.str (PySem.Txt.join z ys)) H
 | _,_ => False
theorem m3_join : MtR3 X "str.join" r3Join:=by
 intro pins s σ H x xs v us Q I rx0 rs0 hh
 obtain ⟨tx,ts,H3,Q3,rx,rs,sh,h,k⟩:=hh
 have fin : ∀ {y : Str},Q3 (.str y) H3 -> ∀ t' kk,EP X pins σ Q (.str y t') { s with toks:=kk }:=fun q t' kk => ⟨.str _,H,I.tok kk,⟨t',rfl⟩,k _ _ _ _ .refl sh .ofStr q⟩
 match tx,ts,h,rx,rs with
 | .str z,[.ref a],h,rx,rs =>
  obtain ⟨w,rfl,rv⟩:=rs.one'
  obtain ⟨u,rfl,ru⟩:=vals1 rs0
  rw [rv.ref] at ru
  cases ru
  rw [rx.str] at rx0
  obtain ⟨t,rfl⟩:=rx0
  have main : ∀ {ls : List T} {ys : List V},SqL X.K H a ys -> Reps X.K H ls ys -> oq (strs3 ls) (fun ys => jOk z ys /\ Q3 (.str (PySem.Txt.join z ys)) H3) -> wpAny (model X.prog X.w) X.A (call (.builtin "str.join") [.str z t,.ref a]) (EP X pins σ Q) X.xe s:=by
   intro ls ys sq r q
   cases e : strs3 ls with
   | none => rw [e] at q; exact q.elim
   | some zs =>
    rw [e] at q
    obtain ⟨its,rvs,hl,_⟩:=I.list sq
    exact join_list hl.isList (strs3_vals e r rvs) q.1 (fin q.2)
  have h' : (match H3 a with
   | some (.lst xs) => oq (strs3 xs) fun ys => jOk z ys /\ Q3 (.str (PySem.Txt.join z ys)) H3
   | some (.rol xs) => oq (strs3 xs) fun ys => jOk z ys /\ Q3 (.str (PySem.Txt.join z ys)) H3
   | _ => False):=h
  split at h'
  ·
   rename_i ls e
   obtain ⟨ys,sq,r⟩:=sh.sqL (.inl e)
   exact main sq r h'
  ·
   rename_i ls e
   obtain ⟨ys,sq,r⟩:=sh.sqL (.inr e)
   exact main sq r h'
  ·
   exact h'.elim
 | .str z,[.tup ls],h,rx,rs =>
  obtain ⟨w,rfl,rv⟩:=rs.one'
  obtain ⟨u,rfl,ru⟩:=vals1 rs0
  obtain ⟨a,ys,rfl,sq,r⟩:=rv.tup
  cases ru
  rw [rx.str] at rx0
  obtain ⟨t,rfl⟩:=rx0
  have q : oq (strs3 ls) (fun ys => jOk z ys /\ Q3 (.str (PySem.Txt.join z ys)) H3):=h
  cases e : strs3 ls with
  | none => rw [e] at q; exact q.elim
  | some zs =>
   rw [e] at q
   obtain ⟨its,rvs,hl,_⟩:=I.tuple sq
   exact join_tuple hl (strs3_vals e r rvs) q.1 (fin q.2)
def r3Index : T -> List T -> Hp3 -> VK3 -> Prop:=fun x ts H Q => match x,ts with
 | .str z,[.str y] => match Builtin.Str.occurrences z y 0 z.length 1 with
  | i :: _ => Q (.int i) H
  | [] => False
 | _,_ => False
theorem m3_index : MtR3 X "str.index" r3Index:=by
 intro pins s σ H x xs v us Q I rx0 rs0 hh
 obtain ⟨tx,ts,H3,Q3,rx,rs,sh,h,k⟩:=hh
 match tx,ts,h,rx,rs with
 | .str z,[.str y],h,rx,rs =>
  obtain ⟨w,rfl,rv⟩:=rs.one'
  obtain ⟨u,rfl,ru⟩:=vals1 rs0
  rw [rv.str] at ru
  obtain ⟨t',rfl⟩:=ru
  rw [rx.str] at rx0
  obtain ⟨t,rfl⟩:=rx0
  have h' : (match Builtin.Str.occurrences z y 0 z.length 1 with
   | i :: _ => Q3 (.int i) H3
   | [] => False):=h
  split at h'
  ·
   rename_i i rest e
   exact SC.index e ⟨.int i,H,I.tok _,⟨_,rfl⟩,k _ _ _ _ .refl sh .ofInt h'⟩
  ·
   exact h'.elim
end
end L3
namespace L3
open PySem PySem.Spec PyProof.Rows L2
noncomputable def compLook (n0 : List (Str × NameKind)) (N : List Str) (kind : Bool) (names : List (Str × NameKind)) (N' : List Str) (nt : Nat) (cap : List Nat) : Bool :=
 kind && names.all (fun y => y.2 != .cell || names.lookup y.1 == some .cell) && names.all (fun x => x.2 != .local || names.lookup x.1 == some .local) && names.all (fun y => y.2 != .free || n0.lookup y.1 == some .cell || n0.lookup y.1 == some .free)
  && N'.length == nt + cap.length && (List.range cap.length).all fun j => match N'[nt + j]?,cap[j]? with
   | some x,some i => N[i]? == some x && names.lookup x == some .free
   | _,_ => false
theorem compSc {X : Cx} {N' : List Str} {nt : Nat} {cap : List Nat} {scope : Scope} {n0 : List (Str × NameKind)} {N : List Str} (h0 : X.env.scope.names = n0) (hN : X.N = N)
  (h : compLook n0 N (scope.kind == .function) scope.names N' nt cap = true) : CompSc X N' nt cap scope:=by
 unfold compLook at h
 simp only [Bool.and_eq_true,List.all_eq_true,beq_iff_eq,bne_iff_ne,Bool.or_eq_true,List.mem_range] at h
 obtain ⟨⟨⟨⟨⟨h1,h2⟩,h3⟩,h4⟩,h5⟩,h6⟩:=h
 refine ⟨h1,fun y hy e => (h2 y hy).resolve_left fun z => z e,fun x hx e => (h3 x hx).resolve_left fun z => z e,fun y hy e => ?_,h5,fun j x e => ?_⟩
 ·
  show X.env.scope.names.lookup y.1 = _ \/ X.env.scope.names.lookup y.1 = _
  rw [h0]
  rcases h4 y hy with (z | z) | z
  ·
   exact absurd e z
  ·
   exact .inl z
  ·
   exact .inr z
 ·
  have hj : j < cap.length:=by
   have:=(List.getElem?_eq_some_iff.mp e).1
   omega
  have q:=h6 j hj
  rw [e] at q
  cases ec : cap[j]? with
  | none => rw [ec] at q; cases q
  | some i =>
   rw [ec] at q
   simp only [Bool.and_eq_true,beq_iff_eq] at q
   exact ⟨i,rfl,by rw [hN]; exact q.1,q.2⟩
noncomputable def relN (n00 names : List (Str × NameKind)) : List (Str × NameKind):=names.map fun (n,k) => if (k == NameKind.free && n00.lookup n == some .cell) = true then (n,NameKind.cell) else (n,k)
theorem compSc2 {X : Cx} {N0 N' : List Str} {nt : Nat} {cap : List Nat} {scope0 scope : Scope} {n00 : List (Str × NameKind)} {N : List Str} {cl : List (Str × Addr)} {pins : List (Addr × Obj)} {s : Shared} {H : Hp} {C : Addr} {fp : List Addr}
  (h0 : X.env.scope.names = n00) (hk : X.env.scope.kind = .function) (hN : N0 = N) (h : compLook (relN n00 scope0.names) N (scope.kind == .function) scope.names N' nt cap = true) : CompSc (cxComp X N0 scope0 cl pins s H C fp) N' nt cap scope:=by
 refine compSc (n0:=relN n00 scope0.names) (N:=N) ?_ hN h
 show (relabel scope0 X.env).names = _
 unfold relabel relN
 dsimp only
 refine List.map_congr_left fun y hy => ?_
 obtain ⟨n,k⟩:=y
 have e : X.env.kindOf n = n00.lookup n:=by unfold Env.kindOf; rw [h0]
 simp only [e,hk,beq_self_eq_true,Bool.and_true]
structure G3 (K : PySem.W.Frag) (mg : Str -> Option Value) (x : Str) (st : Stmt) (ps : List Str) (f : Addr) (fd : FuncData) : Prop where
 fn : Fun K x x st f fd
 b : Binds K fd ps []
 m : mg x = some (.ref f)
structure Bl (mg : Str -> Option Value) : Prop where
 len_ : mg "len" = none
 sum_ : mg "sum" = none
 isinstance_ : mg "isinstance" = none
 all_ : mg "all" = none
 any_ : mg "any" = none
 list_ : mg "list" = none
 tuple_ : mg "tuple" = none
 int_ : mg "int" = none
 str_ : mg "str" = none
 bool_ : mg "bool" = none
 range_ : mg "range" = none
 zip_ : mg "zip" = none
 reversed_ : mg "reversed" = none
 enumerate_ : mg "enumerate" = none
 set_ : mg "set" = none
 sorted_ : mg "sorted" = none
 min_ : mg "min" = none
 max_ : mg "max" = none
 dict_ : mg "dict" = none
 repr_ : mg "repr" = none
theorem bt_len : bootBuiltins "len" = some (.builtin "len"):=by decide +kernel
theorem bt_sum : bootBuiltins "sum" = some (.builtin "sum"):=by decide +kernel
theorem bt_isinstance : bootBuiltins "isinstance" = some (.builtin "isinstance"):=by decide +kernel
theorem bt_list : bootBuiltins "list" = some (.type "list"):=by decide +kernel
theorem bt_tuple : bootBuiltins "tuple" = some (.type "tuple"):=by decide +kernel
theorem bt_int : bootBuiltins "int" = some (.type "int"):=by decide +kernel
theorem bt_str : bootBuiltins "str" = some (.type "str"):=by decide +kernel
theorem bt_bool : bootBuiltins "bool" = some (.type "bool"):=by decide +kernel
theorem Room.u30 {k : Nat} {A : Around} (r : Room k A) : A.units + 30 < cLine:=by have:=r.un; omega
theorem Room.u31 {k : Nat} {A : Around} (r : Room k A) : A.units + 31 < cLine:=by have:=r.un; omega
theorem Room.u1 {k : Nat} {A : Around} (r : Room k A) : A.units + 1 < cLine:=by have:=r.un; omega
end L3
namespace L3
open PySem PySem.Spec PyProof.Rows L2
section
variable {X : Cx} {pins : List (Addr × Obj)} {σ : L2.St} {H : Hp} {s : Shared}
theorem sum_le {c : Nat} : ∀ {xs : List Nat},(∀ x ∈ xs,x <= c) -> xs.sum <= xs.length * c
 | [],_ => by simp
 | x :: xs,h => by
  have a:=h x List.mem_cons_self
  have b:=sum_le (xs:=xs) fun y hy => h y (List.mem_cons_of_mem _ hy)
  simp only [List.sum_cons,List.length_cons,Nat.succ_mul]
  omega
end
section
variable {X : Cx}
def rpH (o : Option O3) (k : Int) (H : Hp3) (Q : VK3) : Prop:=match o with
 | some (.lst xs) => (-(2 ^ 63) <= k /\ k < 2 ^ 63 /\ xs.length * k.toNat <= sizeLine) /\ ∀ p,H p = none -> Q (.ref p) (up3 H p (.lst (List.replicate k.toNat xs).flatten))
 | _ => False
def rRep3 : R3:=fun x y H Q => match x,y with
 | .ref a,.int k => rpH (H a) k H Q
 | _,_ => False
theorem q_rep (a : Addr) (k : Int) (H : Hp3) (Q : VK3) : rRep3 (.ref a) (.int k) H Q = rpH (H a) k H Q:=rfl
theorem q_rpH (xs : List T) (k : Int) (H : Hp3) (Q : VK3) : rpH (some (.lst xs)) k H Q = ((-(2 ^ 63) <= k /\ k < 2 ^ 63 /\ xs.length * k.toNat <= sizeLine) /\ ∀ p,H p = none -> Q (.ref p) (up3 H p (.lst (List.replicate k.toNat xs).flatten))):=rfl
theorem Reps.rep {K : PySem.W.Frag} {H : Hp} {ts : List T} {vs : List V} (r : Reps K H ts vs) : ∀ k : Nat,Reps K H (List.replicate k ts).flatten (List.replicate k vs).flatten
 | 0 => .nil
 | k + 1 => by rw [List.replicate_succ,List.replicate_succ,List.flatten_cons,List.flatten_cons]; exact r.append (Reps.rep r k)
theorem o3_rep : OpR3 X (binaryOp .Mult) rRep3:=by
 refine OpR.imp op_rep ?_
 rintro x y H Q ⟨tx,ty,H3,Q3,rx,ry,sh,h,k⟩
 cases tx with
 | ref a =>
  cases ty with
  | int n =>
   rw [q_rep] at h
   cases e : H3 a with
   | none => rw [e] at h; exact h.elim
   | some o =>
    rw [e] at h
    cases o with
    | lst xs =>
     rw [q_rpH] at h
     obtain ⟨vs,g1,r1⟩:=sh a _ e
     obtain ⟨⟨h1,h2,h3⟩,h'⟩:=h
     refine ⟨a,n,vs,rx.ref,ry.int,g1,h1,h2,by rw [<- r1.length]; exact h3,fun p hp => ?_⟩
     exact k _ _ _ _ (upd_tupLe hp) (sh.newLst hp (r1.rep n.toNat)) .ofRef (h' p (sh.fresh hp))
    | _ => exact h.elim
  | _ => exact h.elim
 | _ => exact h.elim
end
end L3
namespace L3
open PySem PySem.Spec PyProof.Rows L2
section
variable {H : Hp3} {Q : VK3} {σ : St3}
def vq (o : Option (Option T)) (Q : T -> Prop) : Prop:=match o with
 | some (some t) => Q t
 | _ => False
theorem q_vq (t : T) (Q : T -> Prop) : vq (some (some t)) Q = Q t:=rfl
theorem q_var (i : Nat) : tVar3 i σ H Q = vq (σ[i]?) fun t => Q t H:=rfl
def bq (x : T) (Q : Bool -> Prop) : Prop:=match x with
 | .bl k => Q k
 | _ => False
theorem q_bq (b : Bool) (Q : Bool -> Prop) : bq (.bl b) Q = Q b:=rfl
theorem q_test (t : TE3) (Q : Bool -> Hp3 -> Prop) : tTest3 t σ H Q = t σ H fun x H' => bq x fun k => Q k H':=rfl
theorem q_chain (r r' : R3) (ta tb tc : TE3) : tChain3 r r' ta tb tc σ H Q = ta σ H fun x H1 => tb σ H1 fun y H2 => r x y H2 fun z H3 => bq z fun k => if k = true then tc σ H3 fun w H4 => r' y w H4 Q else Q (.bl false) H3:=rfl
theorem q_andV (ta tb : TE3) : tAndV3 ta tb σ H Q = ta σ H fun x H1 => bq x fun c => if c = true then tb σ H1 Q else Q (.bl false) H1:=rfl
theorem q_orV (ta tb : TE3) : tOrV3 ta tb σ H Q = ta σ H fun x H1 => bq x fun c => if c = true then Q (.bl true) H1 else tb σ H1 Q:=rfl
theorem q_notV (ta : TE3) : tNotV3 ta σ H Q = ta σ H fun x H1 => bq x fun c => Q (.bl (!c)) H1:=rfl
theorem q_oq {α : Type} (v : α) (Q : α -> Prop) : oq (some v) Q = Q v:=rfl
theorem q_I (C : Int -> Int -> Prop) (g : Int -> Int -> T) (i j : Int) : rI3 C g (.int i) (.int j) H Q = (C i j /\ Q (g i j) H):=rfl
theorem q_I0 (g : Int -> Int -> T) (i j : Int) : rI03 g (.int i) (.int j) H Q = Q (g i j) H:=rfl
theorem q_addI (i j : Int) : rAdd3 (.int i) (.int j) H Q = Q (.int (i + j)) H:=rfl
theorem q_addS (i j : Str) : rAdd3 (.str i) (.str j) H Q = (i.length + j.length <= sizeLine /\ Q (.str (i ++ j)) H):=rfl
theorem q_addT (xs ys : List T) : rAdd3 (.tup xs) (.tup ys) H Q = (xs.length + ys.length <= sizeLine /\ Q (.tup (xs ++ ys)) H):=rfl
def catH (o u : Option O3) (H : Hp3) (Q : VK3) : Prop:=match o,u with
 | some (.lst xs),some (.lst ys) => xs.length + ys.length <= sizeLine /\ ∀ p,H p = none -> Q (.ref p) (up3 H p (.lst (xs ++ ys)))
 | _,_ => False
theorem q_addL (a b : Addr) : rAdd3 (.ref a) (.ref b) H Q = catH (H a) (H b) H Q:=rfl
theorem q_catH (xs ys : List T) : catH (some (.lst xs)) (some (.lst ys)) H Q = (xs.length + ys.length <= sizeLine /\ ∀ p,H p = none -> Q (.ref p) (up3 H p (.lst (xs ++ ys)))):=rfl
theorem q_eqI (n : Bool) (i j : Int) : r3Eq n (.int i) (.int j) H Q = Q (.bl (if n then !decide (i = j) else decide (i = j))) H:=rfl
theorem q_eqS (n : Bool) (i j : Str) : r3Eq n (.str i) (.str j) H Q = Q (.bl (if n then !decide (i = j) else decide (i = j))) H:=rfl
theorem q_eqB (n : Bool) (i j : Bool) : r3Eq n (.bl i) (.bl j) H Q = Q (.bl (if n then !decide (i = j) else decide (i = j))) H:=rfl
theorem q_eqT (n : Bool) (xs ys : List T) : r3Eq n (.tup xs) (.tup ys) H Q = (xs.all (pl 20) = true /\ ys.all (pl 20) = true /\ Q (.bl (if n then !decide (xs = ys) else decide (xs = ys))) H):=rfl
def eqH (n : Bool) (a b : Addr) (o u : Option O3) (H : Hp3) (Q : VK3) : Prop:=match o,u with
 | some (.lst xs),some (.lst ys) => a ≠ b /\ xs.all (pl 20) = true /\ ys.all (pl 20) = true /\ Q (.bl (if n then !@decide (xs = ys) (instDecidableEqList xs ys) else @decide (xs = ys) (instDecidableEqList xs ys))) H
 | _,_ => False
theorem q_eqL (n : Bool) (a b : Addr) : r3Eq n (.ref a) (.ref b) H Q = eqH n a b (H a) (H b) H Q:=rfl
theorem q_eqH (n : Bool) (a b : Addr) (xs ys : List T) : eqH n a b (some (.lst xs)) (some (.lst ys)) H Q = (a ≠ b /\ xs.all (pl 20) = true /\ ys.all (pl 20) = true /\ Q (.bl (if n then !decide (xs = ys) else decide (xs = ys))) H):=rfl
theorem q_inT (n : Bool) (x : T) (ts : List T) : r3In n x (.tup ts) H Q = (pl 20 x = true /\ ts.all (pl 20) = true /\ Q (.bl (memB n x ts)) H):=rfl
theorem q_inS (n : Bool) (i j : Str) : r3In n (.str i) (.str j) H Q = Q (.bl (occ n i j)) H:=rfl
def inH (n : Bool) (x : T) (o : Option O3) (H : Hp3) (Q : VK3) : Prop:=match o with
 | some (.lst ts) => pl 20 x = true /\ ts.all (pl 20) = true /\ Q (.bl (memB n x ts)) H
 | some (.rol ts) => pl 20 x = true /\ ts.all (pl 20) = true /\ Q (.bl (memB n x ts)) H
 | _ => False
theorem q_inL (n : Bool) (x : T) (a : Addr) : r3In n x (.ref a) H Q = inH n x (H a) H Q:=rfl
theorem q_inH (n : Bool) (x : T) (ts : List T) : inH n x (some (.lst ts)) H Q = (pl 20 x = true /\ ts.all (pl 20) = true /\ Q (.bl (memB n x ts)) H):=rfl
def ixH (o : Option O3) (i : Int) (H : Hp3) (Q : VK3) : Prop:=match o with
 | some (.lst ts) => oq (atI ts i) fun t => Q t H
 | some (.rol ts) => oq (atI ts i) fun t => Q t H
 | _ => False
theorem q_ixL (a : Addr) (i : Int) : r3Ix (.ref a) (.int i) H Q = ixH (H a) i H Q:=rfl
theorem q_ixH (ts : List T) (i : Int) : ixH (some (.lst ts)) i H Q = oq (atI ts i) fun t => Q t H:=rfl
theorem q_ixT (ts : List T) (i : Int) : r3Ix (.tup ts) (.int i) H Q = oq (atI ts i) fun t => Q t H:=rfl
theorem q_ixS (z : Str) (i : Int) : r3Ix (.str z) (.int i) H Q = (z.length <= sizeLine /\ oq (atI z.cps.toList i) fun c => Q (.str ⟨#[c]⟩) H):=rfl
def stH (o : Option O3) (a : Addr) (k : Int) (v : T) (H : Hp3) (Q : Hp3 -> Prop) : Prop:=match o with
 | some (.lst ts) => oq (ixN ts.length k) fun j => Q (up3 H a (.lst (ts.set j v)))
 | _ => False
theorem q_setL (a : Addr) (k : Int) (v : T) (Q : Hp3 -> Prop) : r3SetL (.ref a) (.int k) v H Q = stH (H a) a k v H Q:=rfl
theorem q_stH (ts : List T) (a : Addr) (k : Int) (v : T) (Q : Hp3 -> Prop) : stH (some (.lst ts)) a k v H Q = oq (ixN ts.length k) fun j => Q (up3 H a (.lst (ts.set j v))):=rfl
def pq (x : T) (Q : Option Int -> Prop) : Prop:=match x with
 | .int i => Q (some i)
 | _ => False
theorem q_pq (i : Int) (Q : Option Int -> Prop) : pq (.int i) Q = Q (some i):=rfl
theorem q_part (t : TE3) (Q : Option Int -> Hp3 -> Prop) : tPart3 t σ H Q = t σ H fun x H1 => pq x fun o => Q o H1:=rfl
def slH (o : Option O3) (lo hi : Option Int) (H : Hp3) (Q : VK3) : Prop:=match o with
 | some (.lst ts) => ∀ p,H p = none -> Q (.ref p) (up3 H p (.lst (cut3 ts lo hi)))
 | some (.rol ts) => ∀ p,H p = none -> Q (.ref p) (up3 H p (.lst (cut3 ts lo hi)))
 | _ => False
theorem q_slL (a : Addr) (lo hi : Option Int) : r3Sl (.ref a) lo hi H Q = slH (H a) lo hi H Q:=rfl
theorem q_slH (ts : List T) (lo hi : Option Int) : slH (some (.lst ts)) lo hi H Q = ∀ p,H p = none -> Q (.ref p) (up3 H p (.lst (cut3 ts lo hi))):=rfl
theorem q_slHr (ts : List T) (lo hi : Option Int) : slH (some (.rol ts)) lo hi H Q = ∀ p,H p = none -> Q (.ref p) (up3 H p (.lst (cut3 ts lo hi))):=rfl
theorem q_slT (ts : List T) (lo hi : Option Int) : r3Sl (.tup ts) lo hi H Q = (¬ (HT.sIx ts.length 0 lo = 0 /\ HT.sIx ts.length ts.length hi = ts.length) /\ Q (.tup (cut3 ts lo hi)) H):=rfl
theorem q_slS (z : Str) (lo hi : Option Int) : r3Sl (.str z) lo hi H Q = (z.length <= sizeLine /\ Q (.str (PySem.Txt.slice z lo hi)) H):=rfl
def dgH (o : Option O3) (k : Str) (H : Hp3) (Q : VK3) : Prop:=match o with
 | some (.dct kvs) => oq (look3 k kvs) fun t => Q t H
 | _ => False
theorem q_D (a : Addr) (k : Str) : r3D (.ref a) (.str k) H Q = dgH (H a) k H Q:=rfl
theorem q_dgH (kvs : List (Str × T)) (k : Str) : dgH (some (.dct kvs)) k H Q = oq (look3 k kvs) fun t => Q t H:=rfl
def dpH (x y v : T) (H : Hp3) (Q : Hp3 -> Prop) : Prop:=match x,y with
 | .ref a,.str k => match H a with
  | some (.dct kvs) => kvs.length < sizeLine /\ Q (up3 H a (.dct (put3 k v kvs)))
  | _ => False
 | _,_ => False
def dpO (o : Option O3) (a : Addr) (k : Str) (v : T) (H : Hp3) (Q : Hp3 -> Prop) : Prop:=match o with
 | some (.dct kvs) => kvs.length < sizeLine /\ Q (up3 H a (.dct (put3 k v kvs)))
 | _ => False
theorem q_dput (td ty tv : TE3) (D : Ends3) : sDPut3 td ty tv D σ H = tv σ H fun v H1 => td σ H1 fun x H2 => ty σ H2 fun y H3 => dpH x y v H3 fun H4 => D.nx σ H4:=rfl
theorem q_dpH (a : Addr) (k : Str) (v : T) (Q : Hp3 -> Prop) : dpH (.ref a) (.str k) v H Q = dpO (H a) a k v H Q:=rfl
theorem q_dpO (kvs : List (Str × T)) (a : Addr) (k : Str) (v : T) (Q : Hp3 -> Prop) : dpO (some (.dct kvs)) a k v H Q = (kvs.length < sizeLine /\ Q (up3 H a (.dct (put3 k v kvs)))):=rfl
def lnH (o : Option O3) (H : Hp3) (Q : VK3) : Prop:=match o with
 | some (.lst xs) => Q (.int xs.length) H
 | some (.rol xs) => Q (.int xs.length) H
 | _ => False
theorem q_lenL (a : Addr) : r3Len [.ref a] H Q = lnH (H a) H Q:=rfl
theorem q_lnH (xs : List T) : lnH (some (.lst xs)) H Q = Q (.int xs.length) H:=rfl
theorem q_lenT (xs : List T) : r3Len [.tup xs] H Q = Q (.int xs.length) H:=rfl
theorem q_lenS (z : Str) : r3Len [.str z] H Q = (z.length <= sizeLine /\ Q (.int z.length) H):=rfl
def liH (o : Option O3) (H : Hp3) (Q : VK3) : Prop:=match o with
 | some (.lst xs) => ∀ p,H p = none -> Q (.ref p) (up3 H p (.lst xs))
 | some (.rol xs) => ∀ p,H p = none -> Q (.ref p) (up3 H p (.lst xs))
 | _ => False
theorem q_listL (a : Addr) : r3List [.ref a] H Q = liH (H a) H Q:=rfl
theorem q_liH (xs : List T) : liH (some (.lst xs)) H Q = ∀ p,H p = none -> Q (.ref p) (up3 H p (.lst xs)):=rfl
theorem q_listT (xs : List T) : r3List [.tup xs] H Q = ∀ p,H p = none -> Q (.ref p) (up3 H p (.lst xs)):=rfl
def tpH (o : Option O3) (H : Hp3) (Q : VK3) : Prop:=match o with
 | some (.lst xs) => Q (.tup xs) H
 | some (.rol xs) => Q (.tup xs) H
 | _ => False
theorem q_tupL (a : Addr) : r3Tuple [.ref a] H Q = tpH (H a) H Q:=rfl
theorem q_tpH (xs : List T) : tpH (some (.lst xs)) H Q = Q (.tup xs) H:=rfl
theorem q_tupT (xs : List T) : r3Tuple [.tup xs] H Q = Q (.tup xs) H:=rfl
theorem q_intI (i : Int) : r3Int [.int i] H Q = Q (.int i) H:=rfl
theorem q_intB (b : Bool) : r3Int [.bl b] H Q = Q (.int (if b then 1 else 0)) H:=rfl
theorem q_strI (i : Int) : r3Str [.int i] H Q = (i.natAbs.log2 < 1920 /\ Q (.str (toString i)) H):=rfl
def smH (o : Option O3) (H : Hp3) (Q : VK3) : Prop:=match o with
 | some (.lst xs) => oq (ints3 xs) fun ns => Q (.int ns.sum) H
 | some (.rol xs) => oq (ints3 xs) fun ns => Q (.int ns.sum) H
 | _ => False
theorem q_sumL (a : Addr) : r3Sum [.ref a] H Q = smH (H a) H Q:=rfl
theorem q_smH (xs : List T) : smH (some (.lst xs)) H Q = oq (ints3 xs) fun ns => Q (.int ns.sum) H:=rfl
theorem q_isi (x : T) (n : String) : r3Isi [x,.ty n] H Q = ((n = "str" \/ n = "int" \/ n = "bool" \/ n = "tuple" \/ n = "list") /\ oq (isT n x H) fun b => Q (.bl b) H):=rfl
theorem q_tyS (Ty : String) (z : Str) : ty3 Ty (.str z) H = (Ty = "str"):=rfl
def tyH (o : Option O3) : Prop:=match o with
 | some (.lst _) => True
 | some (.rol _) => True
 | _ => False
theorem q_tyL (Ty : String) (a : Addr) : ty3 Ty (.ref a) H = (Ty = "list" /\ tyH (H a)):=rfl
theorem q_tyH (xs : List T) : tyH (some (.lst xs)) = True:=rfl
def apH (o : Option O3) (a : Addr) (t : T) (H : Hp3) (Q : VK3) : Prop:=match o with
 | some (.lst xs) => xs.length < sizeLine /\ Q .non (up3 H a (.lst (xs ++ [t])))
 | _ => False
theorem q_app (a : Addr) (t : T) : r3App (.ref a) [t] H Q = apH (H a) a t H Q:=rfl
theorem q_apH (xs : List T) (a : Addr) (t : T) : apH (some (.lst xs)) a t H Q = (xs.length < sizeLine /\ Q .non (up3 H a (.lst (xs ++ [t])))):=rfl
def exH (o u : Option O3) (a : Addr) (H : Hp3) (Q : VK3) : Prop:=match o,u with
 | some (.lst xs),some (.lst ys) => xs.length + ys.length <= sizeLine /\ Q .non (up3 H a (.lst (xs ++ ys)))
 | _,_ => False
theorem q_ext (a b : Addr) : r3Ext (.ref a) [.ref b] H Q = exH (H a) (H b) a H Q:=rfl
theorem q_exH (xs ys : List T) (a : Addr) : exH (some (.lst xs)) (some (.lst ys)) a H Q = (xs.length + ys.length <= sizeLine /\ Q .non (up3 H a (.lst (xs ++ ys)))):=rfl
def poH (o : Option O3) (a : Addr) (i : Int) (H : Hp3) (Q : VK3) : Prop:=match o with
 | some (.lst xs) => oq (ixN xs.length i) fun j => oq (xs[j]?) fun t => Q t (up3 H a (.lst (xs.eraseIdx j)))
 | _ => False
theorem q_pop (a : Addr) (i : Int) : r3PopAt (.ref a) [.int i] H Q = poH (H a) a i H Q:=rfl
theorem q_poH (xs : List T) (a : Addr) (i : Int) : poH (some (.lst xs)) a i H Q = oq (ixN xs.length i) fun j => oq (xs[j]?) fun t => Q t (up3 H a (.lst (xs.eraseIdx j))):=rfl
def joH (o : Option O3) (z : Str) (H : Hp3) (Q : VK3) : Prop:=match o with
 | some (.lst xs) => oq (strs3 xs) fun ys => jOk z ys /\ Q (.str (PySem.Txt.join z ys)) H
 | some (.rol xs) => oq (strs3 xs) fun ys => jOk z ys /\ Q (.str (PySem.Txt.join z ys)) H
 | _ => False
theorem q_joinL (z : Str) (a : Addr) : r3Join (.str z) [.ref a] H Q = joH (H a) z H Q:=rfl
theorem q_joH (xs : List T) (z : Str) : joH (some (.lst xs)) z H Q = oq (strs3 xs) fun ys => jOk z ys /\ Q (.str (PySem.Txt.join z ys)) H:=rfl
theorem q_joinT (z : Str) (xs : List T) : r3Join (.str z) [.tup xs] H Q = oq (strs3 xs) fun ys => jOk z ys /\ Q (.str (PySem.Txt.join z ys)) H:=rfl
def idH (o : List Nat) (H : Hp3) (Q : VK3) : Prop:=match o with
 | i :: _ => Q (.int i) H
 | [] => False
theorem q_index (z y : Str) : r3Index (.str z) [.str y] H Q = idH (Builtin.Str.occurrences z y 0 z.length 1) H Q:=rfl
theorem q_idH (i : Nat) (r : List Nat) : idH (i :: r) H Q = Q (.int i) H:=rfl
def rgq (vs : List T) (H : Hp3) (R : List T -> (Hp3 -> Prop) -> Hp3 -> Prop) : Prop:=match vs with
 | [.int j] => -(2 ^ 62) <= j /\ j < 2 ^ 62 /\ R (rng3 0 j.toNat) still0 H
 | [.int i,.int j] => (-(2 ^ 62) <= i /\ i < 2 ^ 62 /\ -(2 ^ 62) <= j /\ j < 2 ^ 62) /\ R (rng3 i (j - i).toNat) still0 H
 | _ => False
theorem q_rng (ta : TA3) (R : List T -> (Hp3 -> Prop) -> Hp3 -> Prop) : iRng3 ta σ H R = ta σ H fun vs H1 => rgq vs H1 R:=rfl
theorem q_rg1 (j : Int) (R : List T -> (Hp3 -> Prop) -> Hp3 -> Prop) : rgq [.int j] H R = (-(2 ^ 62) <= j /\ j < 2 ^ 62 /\ R (rng3 0 j.toNat) still0 H):=rfl
theorem q_rg2 (i j : Int) (R : List T -> (Hp3 -> Prop) -> Hp3 -> Prop) : rgq [.int i,.int j] H R = ((-(2 ^ 62) <= i /\ i < 2 ^ 62 /\ -(2 ^ 62) <= j /\ j < 2 ^ 62) /\ R (rng3 i (j - i).toNat) still0 H):=rfl
def tuq (x : T) (H : Hp3) (R : List T -> (Hp3 -> Prop) -> Hp3 -> Prop) : Prop:=match x with
 | .tup ts => R ts still0 H
 | _ => False
theorem q_iTup (tl : TE3) (R : List T -> (Hp3 -> Prop) -> Hp3 -> Prop) : iTup3 tl σ H R = tl σ H fun x H1 => tuq x H1 R:=rfl
theorem q_tuq (ts : List T) (R : List T -> (Hp3 -> Prop) -> Hp3 -> Prop) : tuq (.tup ts) H R = R ts still0 H:=rfl
def liq (x : T) (H : Hp3) (R : List T -> (Hp3 -> Prop) -> Hp3 -> Prop) : Prop:=match x with
 | .ref a => match H a with
  | some (.lst ts) => R ts (stillL a ts) H
  | some (.rol ts) => R ts (stillL a ts) H
  | _ => False
 | _ => False
def liO (o : Option O3) (a : Addr) (H : Hp3) (R : List T -> (Hp3 -> Prop) -> Hp3 -> Prop) : Prop:=match o with
 | some (.lst ts) => R ts (stillL a ts) H
 | some (.rol ts) => R ts (stillL a ts) H
 | _ => False
theorem q_iList (tl : TE3) (R : List T -> (Hp3 -> Prop) -> Hp3 -> Prop) : iList3 tl σ H R = tl σ H fun x H1 => liq x H1 R:=rfl
theorem q_liq (a : Addr) (R : List T -> (Hp3 -> Prop) -> Hp3 -> Prop) : liq (.ref a) H R = liO (H a) a H R:=rfl
theorem q_liO (ts : List T) (a : Addr) (R : List T -> (Hp3 -> Prop) -> Hp3 -> Prop) : liO (some (.lst ts)) a H R = R ts (stillL a ts) H:=rfl
theorem q_gNil (Q : St3 -> Hp3 -> Prop) : gNil3 [] σ H Q = Q σ H:=rfl
theorem q_gCons (t : TG3) (u : TGs3) (x : T) (r : List T) (Q : St3 -> Hp3 -> Prop) : gCons3 t u (x :: r) σ H Q = t x σ H fun σ' H' => u r σ' H' Q:=rfl
theorem q_gTup (n : Nat) (g : TGs3) (ts : List T) (Q : St3 -> Hp3 -> Prop) : gTup3 n g (.tup ts) σ H Q = (ts.length = n /\ g ts σ H Q):=rfl
end
theorem ixN_nat {n j : Nat} (h : j < n) : ixN n (j : Int) = some j:=by
 unfold ixN
 rw [if_pos (Int.natCast_nonneg j),if_pos (by omega),Int.toNat_natCast]
theorem ix_z (n : Nat) : ixN (n + 1) 0 = some 0:=ixN_nat (j:=0) (Nat.succ_pos n)
theorem at0 {α : Type} (a : α) (r : List α) : atI (a :: r) 0 = some a:=atI_nat (j:=0) rfl
theorem at1 {α : Type} (a b : α) (r : List α) : atI (a :: b :: r) 1 = some b:=atI_nat (j:=1) rfl
theorem at2 {α : Type} (a b c : α) (r : List α) : atI (a :: b :: c :: r) 2 = some c:=atI_nat (j:=2) rfl
theorem at3 {α : Type} (a b c d : α) (r : List α) : atI (a :: b :: c :: d :: r) 3 = some d:=atI_nat (j:=3) rfl
theorem at_ex {α : Type} (xs : List α) (i : Int) (h0 : 0 <= i) (h1 : i < xs.length) : ∃ z,z ∈ xs /\ atI xs i = some z:=by
 obtain ⟨j,rfl⟩:=Int.eq_ofNat_of_zero_le h0
 have hj : j < xs.length:=by omega
 exact ⟨xs[j],List.getElem_mem hj,atI_nat (List.getElem?_eq_getElem hj)⟩
theorem at_map {α β : Type} (f : α -> β) (xs : List α) (i : Int) : atI (xs.map f) i = (atI xs i).map f:=by
 unfold atI
 rw [List.length_map]
 cases ixN xs.length i with
 | none => rfl
 | some j => simp
theorem iter_go {g : TG3} {tb : TS3} {D : Ends3} {still : Hp3 -> Prop} {ts : List T} {σ : St3} {H : Hp3} (I : List T -> St3 -> Hp3 -> Prop) (h0 : I ts σ H) (hn : ∀ σ H,I [] σ H -> still H /\ D.nx σ H)
  (hs : ∀ t r σ H (N : St3 -> Hp3 -> Prop),I (t :: r) σ H -> (∀ σ' H',I r σ' H' -> N σ' H') -> still H /\ g t σ H fun σ2 H2 => tb { D with nx:=N,ct:=N,bk:=D.nx } σ2 H2) : iter3 g tb D still ts σ H:=by
 induction ts generalizing σ H with
 | nil => exact hn σ H h0
 | cons t r ih => exact hs t r σ H (iter3 g tb D still r) h0 fun σ' H' h => ih h
theorem cIter_go {g : TG3} {tt : TT3} {te : TE3} {still : Hp3 -> Prop} {fin : List T -> Hp3 -> Prop} {ts ys : List T} {σ : St3} {H : Hp3} (I : List T -> List T -> St3 -> Hp3 -> Prop) (h0 : I ts ys σ H) (hn : ∀ ys σ H,I [] ys σ H -> still H /\ ys.length <= sizeLine /\ fin ys H)
  (hs : ∀ t r ys σ H (N : List T -> St3 -> Hp3 -> Prop),I (t :: r) ys σ H -> (∀ ys' σ' H',I r ys' σ' H' -> N ys' σ' H') ->
   still H /\ g t σ H fun σ2 H2 => tt σ2 H2 fun b H3 => if b = true then te σ2 H3 fun y H4 => ys.length < sizeLine /\ N (ys ++ [y]) σ2 H4 else N ys σ2 H3) : cIter3 g tt te still fin ts ys σ H:=by
 induction ts generalizing σ H ys with
 | nil => exact hn ys σ H h0
 | cons t r ih => exact hs t r ys σ H (cIter3 g tt te still fin r) h0 fun ys' σ' H' h => ih h
theorem q_prs0 (σ : St3) (H : Hp3) (Q : List (Str × T) -> Hp3 -> Prop) : prs3 [] σ H Q = Q [] H:=rfl
theorem q_prs1 (k : Str) (tv : TE3) (r : List (Str × TE3)) (σ : St3) (H : Hp3) (Q : List (Str × T) -> Hp3 -> Prop) : prs3 ((k,tv) :: r) σ H Q = tv σ H fun y H2 => prs3 r σ H2 fun ps H3 => Q ((k,y) :: ps) H3:=rfl
theorem sx0 (n : Nat) : HT.sIx n 0 none = 0:=rfl
theorem cut_to {ts : List T} {k : Nat} : cut3 ts none (some (k : Int)) = ts.take k:=by
 unfold cut3
 rw [sx0,HT.sIx_nat,List.drop_zero,Nat.sub_zero]
 by_cases h : k <= ts.length
 ·
  rw [Nat.min_eq_left h]
 ·
  rw [Nat.min_eq_right (by omega),List.take_length,List.take_of_length_le (by omega)]
theorem cut_from {ts : List T} {k : Nat} : cut3 ts (some (k : Int)) none = ts.drop k:=by
 unfold cut3
 rw [HT.sIx_none,HT.sIx_nat]
 by_cases h : k <= ts.length
 ·
  rw [Nat.min_eq_left h,List.take_of_length_le (by simp)]
 ·
  rw [Nat.min_eq_right (by omega),List.drop_of_length_le (Nat.le_refl _),List.drop_of_length_le (by omega),List.take_nil]
theorem up3_none {H : Hp3} {a b : Addr} {o : O3} (h : up3 H a o b = none) : b ≠ a /\ H b = none:=by
 by_cases e : b = a
 ·
  subst e; rw [up3_same] at h; cases h
 ·
  rw [up3_ne e] at h; exact ⟨e,h⟩
end L3
namespace L3
open PySem PySem.Spec PyProof.Rows L2
theorem cIter_pure {α : Type} (enc f : α -> T) (as : List α) (rest : St3) {te : TE3} {still : Hp3 -> Prop} {fin : List T -> Hp3 -> Prop} {v : Option T} {H : Hp3} (hst : still H) (hl : as.length <= sizeLine)
  (ht : ∀ a ∈ as,∀ Q : VK3,Q (f a) H -> te (some (enc a) :: rest) H Q) (hfin : fin (as.map f) H) : cIter3 (gName3 0) tYes3 te still fin (as.map enc) [] (v :: rest) H:=by
 refine cIter_go (fun r ys σ H' => ∃ (rs ds : List α) (v : Option T),σ = v :: rest /\ r = rs.map enc /\ ys = ds.map f /\ ds ++ rs = as /\ H' = H) ⟨as,[],v,rfl,rfl,rfl,rfl,rfl⟩ ?_ ?_
 ·
  rintro ys σ H' ⟨rs,ds,v,rfl,hrs,rfl,hsp,rfl⟩
  have hrs' : rs = []:=List.map_eq_nil_iff.mp hrs.symm
  subst hrs'
  rw [List.append_nil] at hsp
  subst hsp
  exact ⟨hst,by rw [List.length_map]; exact hl,hfin⟩
 ·
  rintro x r ys σ H' N ⟨rs,ds,v,rfl,hrs,rfl,hsp,rfl⟩ hN
  cases rs with
  | nil => cases hrs
  | cons t rs =>
   injection hrs with e1 e2
   subst e1 e2
   refine ⟨hst,?_⟩
   show te (some (enc t) :: rest) H' _
   refine ht t (by rw [<- hsp]; simp) _ ⟨?_,hN _ _ _ ⟨rs,ds ++ [t],_,rfl,rfl,by simp,by rw [<- hsp]; simp,rfl⟩⟩
   have:=congrArg List.length hsp
   simp only [List.length_append,List.length_cons] at this
   rw [List.length_map]
   omega
end L3
namespace L3
open PySem PySem.Spec PyProof.Rows L2
section
variable {X : Cx}
noncomputable def bools3 : List T -> Option (List Bool)
 | [] => some []
 | .bl x :: r => (bools3 r).map (x :: ·)
 | _ => none
def alH (o : Option O3) (H : Hp3) (Q : VK3) : Prop:=match o with
 | some (.lst xs) => oq (bools3 xs) fun bs => Q (.bl (bs.all id)) H
 | some (.rol xs) => oq (bools3 xs) fun bs => Q (.bl (bs.all id)) H
 | _ => False
def r3All : List T -> Hp3 -> VK3 -> Prop:=fun ts H Q => match ts with
 | [.ref a] => alH (H a) H Q
 | _ => False
theorem q_all (a : Addr) {H : Hp3} {Q : VK3} : r3All [.ref a] H Q = alH (H a) H Q:=rfl
theorem q_alH (xs : List T) {H : Hp3} {Q : VK3} : alH (some (.lst xs)) H Q = oq (bools3 xs) fun bs => Q (.bl (bs.all id)) H:=rfl
end
end L3
set_option maxHeartbeats 4000000
namespace L3
open PySem PySem.Spec PyProof.Rows L2
section
variable {prog : Program} {w : World} {A : Around} {E : Value -> Shared -> Prop} {s : Shared}
end
end L3
namespace L3
open PySem PySem.Spec PyProof.Rows L2
section
variable {prog : Program} {w : World} {A : Around} {E : Value -> Shared -> Prop} {s : Shared}
end
end L3
namespace L3
open PySem PySem.Spec PyProof.Rows L2
section
variable {prog : Program} {w : World} {A : Around} {E : Value -> Shared -> Prop} {s : Shared}
end
end L3
namespace L3
open PySem PySem.Spec PyProof.Rows L2
section
variable {prog : Program} {w : World} {A : Around} {E : Value -> Shared -> Prop} {s : Shared}
end
section
variable {prog : Program} {w : World} {A : Around} {E : Value -> Shared -> Prop} {s : Shared}
end
section
variable {prog : Program} {w : World} {A : Around} {E : Value -> Shared -> Prop} {s : Shared}
end
section
variable {X : Cx} {e : Expr} {te : TE} {p1 p2 pos pos' : Pos}
end
end L3
namespace L3
open PySem PySem.Spec PyProof.Rows L2
section
variable {prog : Program} {w : World} {A : Around} {E : Value -> Shared -> Prop} {s : Shared}
theorem tn_item {it t : Addr} {i : Nat} {items : Array Value} {x : Value} {Q : Value -> Shared -> Prop} (hit : s.heap.IsTupleIter it t i) (ht : s.heap.IsTuple t items) (hx : items[i]? = some x)
  (hQ : ∀ h',h'.IsTupleIter it t (i + 1) -> Heap.SameBut it s.heap h' -> Q x { s with heap:=h' }) : wpAny (model prog w) A (Builtin.SmallTypes.nextOf (.ref it)) Q E s:=by
 obtain ⟨o,ho,hc,hd⟩:=id hit
 obtain ⟨ol,hol,_,nl,hdl⟩:=ht
 unfold Builtin.SmallTypes.nextOf
 refine wpAny_bind (wpAny_callSpecial?_slot (name:=Str.ofString "__next__") hit.typeIs F.slot_tuple_iterator_next
  (wpAny_call_entry F.slot_tuple_iterator_next hit.typeIs F.entry_tuple_iterator_next ?_ (F.args_tuple_iterator_next_1 _)))
 show wpAny _ _ (field (.ref it) 0 >>= _) _ _ s
 refine wpAny_bind (wpAny_field ho hd (x:=.ref t) rfl ?_)
 show wpAny _ _ (if (Value.ref t == Value.none) = true then _ else _) _ _ s
 rw [if_neg (show ¬ ((Value.ref t == Value.none) = true) from Bool.false_ne_true)]
 show wpAny _ _ (field (.ref it) 1 >>= _) _ _ s
 refine wpAny_bind (wpAny_field ho hd (x:=.int i 0) rfl ?_)
 show wpAny _ _ (seqItems? (.ref t) >>= _) _ _ s
 refine wpAny_bind (wpAny_seqItems hol hdl ?_)
 simp only [Int.toNat_natCast,hx]
 refine wpAny_bind (wpAny_setField ho hd (by simp) (wpAny_pure ⟨x,rfl,wpAny_pure (hQ _ ?_ (Heap.SameBut.update ..))⟩))
 refine ⟨_,Heap.get?_update_self _ ho (Obj.isFreed_of_fields (Obj.data_mapFields hd _)),(Obj.cls_mapFields ..).trans hc,?_⟩
 rw [Obj.data_mapFields hd]
 simp [rawInt]
theorem tn_end {it t : Addr} {i : Nat} {items : Array Value} {Q : Value -> Shared -> Prop} (hh : A.handled = none) (hit : s.heap.IsTupleIter it t i) (ht : s.heap.IsTuple t items) (hx : items[i]? = none)
  (hE : ∀ h' e,Heap.ExtBut it s.heap h' -> (∃ o,h'.get? e = some o /\ o.cls = .type "StopIteration") -> E (.ref e) { s with heap:=h' }) : wpAny (model prog w) A (Builtin.SmallTypes.nextOf (.ref it)) Q E s:=by
 obtain ⟨o,ho,hc,hd⟩:=id hit
 obtain ⟨ol,hol,_,nl,hdl⟩:=ht
 unfold Builtin.SmallTypes.nextOf
 refine wpAny_bind (wpAny_callSpecial?_slot (name:=Str.ofString "__next__") hit.typeIs F.slot_tuple_iterator_next
  (wpAny_call_entry F.slot_tuple_iterator_next hit.typeIs F.entry_tuple_iterator_next ?_ (F.args_tuple_iterator_next_1 _)))
 show wpAny _ _ (field (.ref it) 0 >>= _) _ _ s
 refine wpAny_bind (wpAny_field ho hd (x:=.ref t) rfl ?_)
 show wpAny _ _ (if (Value.ref t == Value.none) = true then _ else _) _ _ s
 rw [if_neg (show ¬ ((Value.ref t == Value.none) = true) from Bool.false_ne_true)]
 show wpAny _ _ (field (.ref it) 1 >>= _) _ _ s
 refine wpAny_bind (wpAny_field ho hd (x:=.int i 0) rfl ?_)
 show wpAny _ _ (seqItems? (.ref t) >>= _) _ _ s
 refine wpAny_bind (wpAny_seqItems hol hdl ?_)
 simp only [Int.toNat_natCast,hx]
 refine wpAny_bind (wpAny_rule (wpAny_bind (wpAny_setField ho hd (by simp) ?_)))
 show wpAny _ _ (newExc (.type "StopIteration") [] >>= _) _ _ _
 refine wpAny_bind ?_
 simp only [newExc,newTuple]
 refine wpAny_bind (wpAny_newObj_type ?_ (by size_fits))
 refine wpAny_bind (m:=firstArgMember _ _) (wpAny_of_eq (a:=Value.none) (by first | rfl | (simp only [firstArgMember]; rfl)) ?_)
 refine wpAny_newObj_type ?_ (by size_fits)
 simp only [raiseNew]
 refine wpAny_bind (wpAny_handled ?_)
 first | rw [show A.in1.handled = none from hh] | rw [hh]
 refine wpAny_bind (wpAny_pure (wpAny_throw ?_))
 exact hE _ _ (((Heap.SameBut.update ..).extBut.push _).push _) ⟨_,Heap.get?_push_size _ rfl,rfl⟩
end
theorem drawsT {prog : Program} {w : World} {A : Around} (hh : A.handled = none) (it t : Addr) (hne : t ≠ it) (items : Array Value) :
  Draws prog w A it [it,t] items.size (fun i v => items[i]? = some v) (fun i h => h.IsTupleIter it t i /\ h.IsTuple t items) where
 live:=fun _ _ st => let ⟨o,ho,_⟩:=st.1; ⟨o,ho⟩
 frame:=fun _ _ _ st hk => ⟨st.1.at fun o e => hk it (by simp) o e,st.2.at fun o e => hk t (by simp) o e⟩
 item:=fun i s Q E hi st hQ => by
  refine tn_item st.1 st.2 (x:=items[i]) (by simp [hi]) fun h' hit' hs' => ?_
  exact hQ _ h' s.toks (by simp [hi]) ⟨hit',st.2.extBut hs'.extBut hne⟩ hs'
 done:=fun s Q E st hE => tn_end hh st.1 st.2 (by simp) hE
section
variable {z ti to i1 i2 : Addr} {f1 f2 : List Addr}
end
section
variable {prog : Program} {w : World} {A : Around} {E : Value -> Shared -> Prop} {s : Shared} {z ti to i1 i2 : Addr} {f1 f2 : List Addr} {n1 n2 k : Nat} {P1 P2 : Nat -> Value -> Prop} {S1 S2 : Nat -> Heap -> Prop}
end
end L3
namespace L3
open PySem PySem.Spec PyProof.Rows L2
section
variable {prog : Program} {w : World} {A : Around} {E : Value -> Shared -> Prop} {s : Shared} {z ti to i1 i2 : Addr} {f1 f2 : List Addr} {n1 n2 k : Nat} {P1 P2 : Nat -> Value -> Prop} {S1 S2 : Nat -> Heap -> Prop}
end
section
variable {prog : Program} {w : World} {A : Around} {E : Value -> Shared -> Prop} {s : Shared}
end
end L3
namespace L3
open PySem PySem.Spec PyProof.Rows L2
theorem drawsE {prog : Program} {w : World} {A : Around} (hh : A.handled = none) (it t : Addr) (hne : t ≠ it) (items : Array Value) (k : Nat) (hk : items[k]? = none) :
  Draws prog w A it [it,t] k (fun _ _ => True) (fun i h => i = k /\ h.IsTupleIter it t i /\ h.IsTuple t items) where
 live:=fun _ _ st => let ⟨o,ho,_⟩:=st.2.1; ⟨o,ho⟩
 frame:=fun _ _ _ st hk => ⟨st.1,st.2.1.at fun o e => hk it (by simp) o e,st.2.2.at fun o e => hk t (by simp) o e⟩
 item:=fun i s Q E hi st hQ => absurd st.1 (Nat.ne_of_lt hi)
 done:=fun s Q E st hE => tn_end hh st.2.1 st.2.2 hk hE
section
variable {X : Cx} {pins : List (Addr × Obj)} {σ : L2.St} {H : Hp} {s : Shared} {h' : Heap}
theorem turnedL {ch : List Addr} {t' : Nat} (I : Inv X pins σ H s) (k : ∀ b o,b ∉ ch -> s.heap.get? b = some o -> h'.get? b = some o) (hf : ∀ b ∈ ch,FpOk X pins H b) : Inv X pins σ H { s with heap:=h',toks:=t' }:=by
 have nit : ∀ b u,H b = some u -> b ∉ ch:=fun b u e z => by rw [(hf b z).1] at e; cases e
 refine I.step (g':=s.gens) (d':=s.drawn) (ch:=ch) (fun b hb => ?_) (fun b o _ _ hc e _ => k b o hc e) (fun b o _ _ hc e _ => ⟨o.slots,k b o hc e⟩) (fun _ _ _ _ n => n)
  (fun b o hc e => ⟨o,k b o hc e⟩) (fun _ _ e => e) (fun _ _ _ e => e) (fun b ps e => ⟨#[],by rw [e]; simp⟩) (fun m hm => ?_) (fun b u e => ?_) I.bare
 ·
  obtain ⟨_,f1,_,f3,f4,f5⟩:=hf b hb
  exact ⟨f3,f1,f4,f5⟩
 ·
  obtain ⟨o,es,ep,ho,r⟩:=hm
  exact ⟨o,es,ep,k _ o (fun z => (hf _ z).2.1 rfl) ho,r⟩
 ·
  refine (I.hok b u e).stay (fun c v hc q => k c v ?_ q) (fun _ q => q) fun _ _ q => q
  rcases hc with z | z
  ·
   rw [z]; exact nit b u e
  ·
   exact nit c _ z
end
section
variable {X : Cx} {elts : List Expr} {x1 : Nat} {tpos pos p : Pos} {ea eb : Expr}
noncomputable def zip3 : List T -> List T -> List T
 | x :: xs,y :: ys => .tup [x,y] :: zip3 xs ys
 | _,_ => []
end
end L3
set_option maxHeartbeats 1000000
namespace L3
open PySem PySem.Spec PyProof.Rows L2
theorem cIter_pure2 {α : Type} (e1 e2 f : α -> T) (as : List α) (rest : St3) {te : TE3} {still : Hp3 -> Prop} {fin : List T -> Hp3 -> Prop} {v u : Option T} {H : Hp3} (hst : still H) (hl : as.length <= sizeLine)
  (ht : ∀ a ∈ as,∀ Q : VK3,Q (f a) H -> te (some (e1 a) :: some (e2 a) :: rest) H Q) (hfin : fin (as.map f) H) :
  cIter3 (gTup3 2 (gCons3 (gName3 0) (gCons3 (gName3 1) gNil3))) tYes3 te still fin (as.map fun a => .tup [e1 a,e2 a]) [] (v :: u :: rest) H:=by
 refine cIter_go (fun r ys σ H' => ∃ (rs ds : List α) (v u : Option T),σ = v :: u :: rest /\ r = rs.map (fun a => .tup [e1 a,e2 a]) /\ ys = ds.map f /\ ds ++ rs = as /\ H' = H) ⟨as,[],v,u,rfl,rfl,rfl,rfl,rfl⟩ ?_ ?_
 ·
  rintro ys σ H' ⟨rs,ds,v,u,rfl,hrs,rfl,hsp,rfl⟩
  have hrs' : rs = []:=List.map_eq_nil_iff.mp hrs.symm
  subst hrs'
  rw [List.append_nil] at hsp
  subst hsp
  exact ⟨hst,by rw [List.length_map]; exact hl,hfin⟩
 ·
  rintro x r ys σ H' N ⟨rs,ds,v,u,rfl,hrs,rfl,hsp,rfl⟩ hN
  cases rs with
  | nil => cases hrs
  | cons t rs =>
   injection hrs with a1 a2
   subst a1 a2
   refine ⟨hst,rfl,?_⟩
   show te (some (e1 t) :: some (e2 t) :: rest) H' _
   refine ht t (by rw [<- hsp]; simp) _ ⟨?_,hN _ _ _ ⟨rs,ds ++ [t],_,_,rfl,rfl,by simp,by rw [<- hsp]; simp,rfl⟩⟩
   have:=congrArg List.length hsp
   simp only [List.length_append,List.length_cons] at this
   rw [List.length_map]
   omega
theorem zip3_self : ∀ (ts : List T),zip3 ts ts = ts.map fun t => .tup [t,t]
 | [] => rfl
 | t :: r => by rw [zip3,zip3_self r]; rfl
noncomputable def shp : Nat -> T -> Bool
 | _,.str _ => true
 | _,.int _ => true
 | d + 1,.tup ts => decide (ts.length <= sizeLine) && ts.all (shp d)
 | _,_ => false
def spSame (d : Nat) : Sp3:=fun ts H Q => ∃ t,d ≠ 0 /\ ts = [t,t] /\ shp (d - 1) t = true /\ Q (.bl true) H
theorem fn3_none {P : Program} {w : World} {K : PySem.W.Frag} {mg : Str -> Option Value} {base : Heap} {k : Nat} {f : Addr} {fd : FuncData} {ps : List Str} {sp : Sp3} (h : ∀ ts H Q,¬ sp ts H Q) : FnOk3 P w K mg base k f fd ps sp :=
 ⟨fun vs H Q E ⟨ts,H3,Q3,_,_,q,_⟩ => absurd q (h _ _ _),fun A outer s H args us vs Q E _ _ _ _ ⟨ts,H3,Q3,_,_,q,_⟩ => absurd q (h _ _ _)⟩
section
variable {H : Hp3} {Q : VK3}
theorem qi_str (x : T) : r3Isi [x,.ty "str"] H Q = oq (isT "str" x H) fun b => Q (.bl b) H:=by rw [q_isi]; exact propext ⟨fun h => h.2,fun h => ⟨by simp,h⟩⟩
theorem it_str_str (x : Str) : isT "str" (.str x) H = some true:=rfl
theorem it_int_str (x : Int) : isT "str" (.int x) H = some false:=rfl
theorem it_tup_str (x : List T) : isT "str" (.tup x) H = some false:=rfl
theorem it_bl_str (x : Bool) : isT "str" (.bl x) H = some false:=rfl
theorem it_non_str  : isT "str" (.non) H = some false:=rfl
theorem qi_int (x : T) : r3Isi [x,.ty "int"] H Q = oq (isT "int" x H) fun b => Q (.bl b) H:=by rw [q_isi]; exact propext ⟨fun h => h.2,fun h => ⟨by simp,h⟩⟩
theorem it_str_int (x : Str) : isT "int" (.str x) H = some false:=rfl
theorem it_int_int (x : Int) : isT "int" (.int x) H = some true:=rfl
theorem it_tup_int (x : List T) : isT "int" (.tup x) H = some false:=rfl
theorem it_bl_int (x : Bool) : isT "int" (.bl x) H = some true:=rfl
theorem it_non_int  : isT "int" (.non) H = some false:=rfl
theorem qi_bool (x : T) : r3Isi [x,.ty "bool"] H Q = oq (isT "bool" x H) fun b => Q (.bl b) H:=by rw [q_isi]; exact propext ⟨fun h => h.2,fun h => ⟨by simp,h⟩⟩
theorem it_str_bool (x : Str) : isT "bool" (.str x) H = some false:=rfl
theorem it_int_bool (x : Int) : isT "bool" (.int x) H = some false:=rfl
theorem it_tup_bool (x : List T) : isT "bool" (.tup x) H = some false:=rfl
theorem it_bl_bool (x : Bool) : isT "bool" (.bl x) H = some true:=rfl
theorem it_non_bool  : isT "bool" (.non) H = some false:=rfl
theorem qi_tuple (x : T) : r3Isi [x,.ty "tuple"] H Q = oq (isT "tuple" x H) fun b => Q (.bl b) H:=by rw [q_isi]; exact propext ⟨fun h => h.2,fun h => ⟨by simp,h⟩⟩
theorem it_str_tuple (x : Str) : isT "tuple" (.str x) H = some false:=rfl
theorem it_int_tuple (x : Int) : isT "tuple" (.int x) H = some false:=rfl
theorem it_tup_tuple (x : List T) : isT "tuple" (.tup x) H = some true:=rfl
theorem it_bl_tuple (x : Bool) : isT "tuple" (.bl x) H = some false:=rfl
theorem it_non_tuple  : isT "tuple" (.non) H = some false:=rfl
theorem qi_list (x : T) : r3Isi [x,.ty "list"] H Q = oq (isT "list" x H) fun b => Q (.bl b) H:=by rw [q_isi]; exact propext ⟨fun h => h.2,fun h => ⟨by simp,h⟩⟩
theorem it_str_list (x : Str) : isT "list" (.str x) H = some false:=rfl
theorem it_int_list (x : Int) : isT "list" (.int x) H = some false:=rfl
theorem it_tup_list (x : List T) : isT "list" (.tup x) H = some false:=rfl
theorem it_bl_list (x : Bool) : isT "list" (.bl x) H = some false:=rfl
theorem it_non_list  : isT "list" (.non) H = some false:=rfl
theorem dec_rfl {α : Type} [DecidableEq α] (a : α) : decide (a = a) = true:=decide_eq_true rfl
end
end L3
set_option maxHeartbeats 4000000
namespace L3
open PySem PySem.Spec PyProof.Rows L2
section
variable {X : Cx} {tg e : Expr} {p p1 p2 pos pos' : Pos}
variable {o : Expr} {to : TE3} {name : Str} {apos cpos : Pos} {m : T -> List T -> Hp3 -> VK3 -> Prop} {Ty id : String}
def tBM03 (Ty : String) (m : T -> List T -> Hp3 -> VK3 -> Prop) (to : TE3) : TE3:=fun σ H Q => to σ H fun x H1 => ty3 Ty x H1 /\ m x [] H1 Q
theorem e3_bm0 (pa : PlainAttrs Ty) (slot : Slot Ty name id) (hty : typeOf (.builtin id) = pure (.type "method_descriptor")) (hm : MtR3 X id m) (ho : PE3 X o to)
  (hbase : attributeBase o name X.env (eval o X.env) = eval o X.env:=by rfl) (hline : (apos.endLine == cpos.line) = true:=by rfl) :
  PE3 X (.Call (.Attribute o name apos) [] [] cpos) (tBM03 Ty m to):=by
 refine PE.imp (pe_bm0 pa slot hty hm ho hbase hline) ?_
 rintro σ H Q ⟨σ3,H3,Q3,ss,sh,h,k⟩
 exact ⟨σ3,H3,_,ss,sh,h,fun x H1 tx H31 le1 sh1 rx q1 => ⟨ty3_V sh1 rx q1.1,tx,[],H31,Q3,rx,.nil,sh1,q1.2,k.at le1⟩⟩
end
end L3
namespace L3
open PySem PySem.Spec PyProof.Rows L2
section
variable {X : Cx}
def rInsert : V -> List V -> Hp -> VK -> Prop:=fun x vs H Q => ∃ l xs i y,x = .ref l /\ vs = [.int i,y] /\ H l = some (.lst xs) /\ 0 <= i /\ i <= xs.length /\ xs.length < sizeLine /\ Q .non (upd H l (.lst (xs.take i.toNat ++ y :: xs.drop i.toNat)))
theorem mt_insert : MtR X "list.insert" rInsert:=by
 intro pins s σ H x vs v us Q I rx rv h
 obtain ⟨l,xs,i,y,rfl,rfl,hH,h0,h1,hz,q⟩:=h
 cases rx
 obtain ⟨u,u',rfl,ru,ru'⟩:=vals2 rv
 obtain ⟨t,rfl⟩:=ru
 obtain ⟨z,its,n,r,hl,e⟩:=I.lstM hH
 have hsz : sizeLine = 16777216:=rfl
 have hf : ¬ (!Builtin.List.listFitsIndex i) = true:=by
  rw [fitsIndex_both (by omega) (by omega)]
  exact Bool.false_ne_true
 refine call_meets F.slot_list_insert ⟨_,e,rfl⟩ F.entry_list_insert (F.args_list_insert_3 _ _ _) (AutoSeq1.list_insert_list_int_val_1 l its.toArray n i t u' hf (by rw [List.size_toArray]; omega)) ⟨e,?_⟩
 refine ⟨.non,_,I.lset (its':=its.take i.toNat ++ u' :: its.drop i.toNat) hH e ?_ ((r.take _).append (.cons ru' (r.drop _))) ?_,rfl,q⟩
 ·
  dsimp only
  rw [if_neg (by omega),List.size_toArray,Nat.min_eq_left (by omega)]
  apply Array.toList_inj.mp
  simp
  exact List.take_of_length_le (by simp)
 ·
  rw [List.length_append,List.length_cons,List.length_take,List.length_drop]
  omega
def insH (o : Option O3) (a : Addr) (i : Int) (t : T) (H : Hp3) (Q : VK3) : Prop:=match o with
 | some (.lst xs) => (0 <= i /\ i <= xs.length /\ xs.length < sizeLine) /\ Q .non (up3 H a (.lst (xs.take i.toNat ++ t :: xs.drop i.toNat)))
 | _ => False
def r3Ins : T -> List T -> Hp3 -> VK3 -> Prop:=fun x ts H Q => match x,ts with
 | .ref a,[.int i,t] => insH (H a) a i t H Q
 | _,_ => False
theorem q_ins (a : Addr) (i : Int) (t : T) (H : Hp3) (Q : VK3) : r3Ins (.ref a) [.int i,t] H Q = insH (H a) a i t H Q:=rfl
theorem q_insH (xs : List T) (a : Addr) (i : Int) (t : T) (H : Hp3) (Q : VK3) : insH (some (.lst xs)) a i t H Q = ((0 <= i /\ i <= xs.length /\ xs.length < sizeLine) /\ Q .non (up3 H a (.lst (xs.take i.toNat ++ t :: xs.drop i.toNat)))):=rfl
theorem m3_insert : MtR3 X "list.insert" r3Ins:=by
 refine MtR.imp mt_insert ?_
 rintro x xs H Q ⟨tx,ts,H3,Q3,rx,rs,sh,h,k⟩
 cases tx with
 | ref a =>
  cases ts with
  | nil => exact h.elim
  | cons t1 ts =>
   cases ts with
   | nil => cases t1 <;> exact h.elim
   | cons t2 ts =>
    cases ts with
    | cons _ _ => cases t1 <;> exact h.elim
    | nil =>
     cases t1 with
     | int i =>
      rw [q_ins] at h
      cases e : H3 a with
      | none => rw [e] at h; exact h.elim
      | some o =>
       rw [e] at h
       cases o with
       | lst ls =>
        rw [q_insH] at h
        obtain ⟨ys,hH,r⟩:=sh a _ e
        obtain ⟨⟨h1,h2,h3⟩,h'⟩:=h
        obtain ⟨v,v',rfl,rv,rv'⟩:=rs.two'
        refine ⟨a,ys,i,v',rx.ref,by rw [rv.int],hH,h1,by rw [<- r.length]; exact h2,by rw [<- r.length]; exact h3,k _ _ _ _ (wr_tupLe (by rw [hH]; exact trivial)) (sh.wrL hH ((r.take _).append (.cons rv' (r.drop _)))) .ofNon h'⟩
       | _ => exact h.elim
     | _ => exact h.elim
 | _ => exact h.elim
def mxH (o : Option O3) (H : Hp3) (Q : VK3) : Prop:=match o with
 | some (.lst xs) => oq (ints3 xs) fun ns => ns ≠ [] /\ ∀ M,M ∈ ns -> (∀ a ∈ ns,a <= M) -> Q (.int M) H
 | _ => False
def r3Max1 : List T -> Hp3 -> VK3 -> Prop:=fun ts H Q => match ts with
 | [.ref a] => mxH (H a) H Q
 | _ => False
theorem q_max1 (a : Addr) (H : Hp3) (Q : VK3) : r3Max1 [.ref a] H Q = mxH (H a) H Q:=rfl
theorem q_mxH (xs : List T) (H : Hp3) (Q : VK3) : mxH (some (.lst xs)) H Q = oq (ints3 xs) fun ns => ns ≠ [] /\ ∀ M,M ∈ ns -> (∀ a ∈ ns,a <= M) -> Q (.int M) H:=rfl
theorem c3_max1 (hc : X.calm = true) : CallR3 X (.builtin "max") r3Max1:=by
 intro pins s σ H xs us Q I rv h
 obtain ⟨ts,H3,Q3,r,sh,h,k⟩:=h
 cases ts with
 | nil => exact h.elim
 | cons t ts =>
  cases ts with
  | cons _ _ => cases t <;> exact h.elim
  | nil =>
   cases t with
   | ref a =>
    rw [q_max1] at h
    obtain ⟨v,rfl,rv'⟩:=r.one'
    obtain ⟨u,rfl,ru⟩:=vals1 rv
    rw [rv'.ref] at ru
    cases ru
    cases e : H3 a with
    | none => rw [e] at h; exact h.elim
    | some o =>
     rw [e] at h
     cases o with
     | lst ls =>
      rw [q_mxH] at h
      obtain ⟨ys,sq,rs⟩:=sh.sqL (.inl e)
      cases e2 : ints3 ls with
      | none => rw [e2] at h; exact h.elim
      | some ns =>
       rw [e2,q_oq] at h
       obtain ⟨hne,h⟩:=h
       obtain ⟨its,rvs,hl,_⟩:=I.list sq
       have hi:=ints3_vals e2 rs rvs
       have hall : AllInts its.toArray:=hi.allInts
       obtain ⟨zs,ez⟩:=hall.items
       have hls : s.heap.IsList a (intItems zs):=by rw [<- ez]; exact hl.isList
       have e1:=nums_intItems zs
       rw [<- ez,show its.toArray.toList = its from rfl,hi.numsOf] at e1
       have hz : 0 < zs.size:=by
        have:=congrArg List.length e1
        simp at this
        have:=List.length_pos_iff.mpr hne
        omega
       refine max_intList (I.ok.hd hc) hls hz fun v h' tk hv hk => ?_
       obtain ⟨t,rfl⟩:=intItems_at hv
       obtain ⟨h1,h2⟩:=argBest_gt (numAt zs) (zs.size - 1)
       refine ⟨.int _,H,I.kept hk,⟨t,rfl⟩,k _ _ _ _ .refl sh .ofInt (h _ ?_ fun a ha => ?_)⟩
       ·
        rw [e1,numAt_eq]; exact getD_mem (by rw [List.length_map,Array.length_toList]; omega)
       ·
        rw [e1] at ha
        obtain ⟨j,hj,rfl⟩:=mem_getD ha
        rw [List.length_map,Array.length_toList] at hj
        rw [<- numAt_eq]; exact h2 j (by omega)
     | _ => exact h.elim
   | _ => cases h
end
end L3
namespace L3
open PySem PySem.Spec PyProof.Rows L2
theorem cIter_f3 {α : Type} (e1 e2 e3 f : α -> T) (p : α -> Bool) (as : List α) (rest : St3) {tt : TT3} {te : TE3} {still : Hp3 -> Prop} {fin : List T -> Hp3 -> Prop} {v u w : Option T} {H : Hp3} (hst : still H) (hl : as.length <= sizeLine)
  (hc : ∀ a ∈ as,∀ Q : Bool -> Hp3 -> Prop,Q (p a) H -> tt (some (e1 a) :: some (e2 a) :: some (e3 a) :: rest) H Q)
  (ht : ∀ a ∈ as,p a = true -> ∀ Q : VK3,Q (f a) H -> te (some (e1 a) :: some (e2 a) :: some (e3 a) :: rest) H Q) (hfin : fin ((as.filter p).map f) H) :
  cIter3 (gTup3 3 (gCons3 (gName3 0) (gCons3 (gName3 1) (gCons3 (gName3 2) gNil3)))) tt te still fin (as.map fun a => .tup [e1 a,e2 a,e3 a]) [] (v :: u :: w :: rest) H:=by
 refine cIter_go (fun r ys σ H' => ∃ (rs ds : List α) (v u w : Option T),σ = v :: u :: w :: rest /\ r = rs.map (fun a => .tup [e1 a,e2 a,e3 a]) /\ ys = (ds.filter p).map f /\ ds ++ rs = as /\ H' = H) ⟨as,[],v,u,w,rfl,rfl,rfl,rfl,rfl⟩ ?_ ?_
 ·
  rintro ys σ H' ⟨rs,ds,v,u,w,rfl,hrs,rfl,hsp,rfl⟩
  have hrs' : rs = []:=List.map_eq_nil_iff.mp hrs.symm
  subst hrs'
  rw [List.append_nil] at hsp
  subst hsp
  exact ⟨hst,by rw [List.length_map]; exact Nat.le_trans (List.length_filter_le _ _) hl,hfin⟩
 ·
  rintro x r ys σ H' N ⟨rs,ds,v,u,w,rfl,hrs,rfl,hsp,rfl⟩ hN
  cases rs with
  | nil => cases hrs
  | cons t rs =>
   injection hrs with a1 a2
   subst a1 a2
   refine ⟨hst,rfl,?_⟩
   show tt (some (e1 t) :: some (e2 t) :: some (e3 t) :: rest) H' _
   refine hc t (by rw [<- hsp]; simp) _ ?_
   cases hp : p t with
   | true =>
    rw [if_pos rfl]
    refine ht t (by rw [<- hsp]; simp) hp _ ⟨?_,hN _ _ _ ⟨rs,ds ++ [t],_,_,_,rfl,rfl,by simp [hp],by rw [<- hsp]; simp,rfl⟩⟩
    have:=congrArg List.length hsp
    simp only [List.length_append,List.length_cons] at this
    rw [List.length_map]
    have:=List.length_filter_le p ds
    omega
   | false =>
    rw [if_neg Bool.false_ne_true]
    exact hN _ _ _ ⟨rs,ds ++ [t],_,_,_,rfl,rfl,by simp [hp],by rw [<- hsp]; simp,rfl⟩
end L3
namespace L3
open PySem PySem.Spec PyProof.Rows L2 HT
section
variable {prog : Program} {w : World} {A : Around} {E : Value -> Shared -> Prop} {s : Shared}
theorem getItem_tuple_full {t sl : Addr} {items : Array Value} {vl vu : Value} {lo hi : Option Int} {Q : Value -> Shared -> Prop} (ht : IsTup s.heap t items) (hs : s.heap.IsSliceOf sl vl vu .none) (pl : IsPart vl lo) (pu : IsPart vu hi)
  (hw : sIx items.size 0 lo = 0 /\ sIx items.size items.size hi = items.size) (h : Q (.ref t) s) : wpAny (model prog w) A (getItem (.ref t) (.ref sl)) Q E s:=by
 obtain ⟨os,hos,hcs,hds⟩:=id hs
 have hTs : s.TypeIs (.ref sl) "slice":=⟨os,hos,hcs⟩
 unfold getItem
 try with_reducible refine wpAny_holding ?_
 first | refine wpAny_bind (wpAny_pure ?_) | skip
 refine wpAny_bind (wpAny_sequenceKey ht.typeIs (by decide) ?_)
 refine wpAny_bind (wpAny_callSpecial?_slot (name:=Str.ofString "__getitem__") ht.typeIs PyProof.Rows.slot_tuple_getitem
  (wpAny_call_entry PyProof.Rows.slot_tuple_getitem ht.typeIs entry_tuple_getitem ?_ (args_tuple_getitem _ _)))
 show wpAny _ _ (Builtin.Tuple.tupleItemsOf (.ref t) >>= _) _ _ s
 refine wpAny_bind (tupleItemsOf_ ht ?_)
 refine wpAny_bind (wpAny_typeOf hTs ?_)
 rw [if_pos (by decide)]
 refine wpAny_bind (sliceApplied_gen hs pl pu ?_)
 show wpAny _ _ (if (((sIx items.size 0 lo : Nat) : Int) == 0 && (1 : Int) == 1 && (sIx items.size items.size hi - sIx items.size 0 lo) == items.size) = true then _ else _) _ _ s
 rw [if_pos (by rw [hw.1,hw.2]; simp)]
 have hT:=ht.typeIs
 wp_walk
 exact ⟨_,rfl,wpAny_pure h⟩
end
section
variable {X : Cx}
theorem sl_tupF : SlR X (fun x lo hi H Q => ∃ a xs,x = .ref a /\ SqT X.K H a xs /\ (HT.sIx xs.length 0 lo = 0 /\ HT.sIx xs.length xs.length hi = xs.length) /\ Q (.ref a) H):=by
 intro pins s σ H x v vl vu lo hi sl Q I rx hs pl pu h
 obtain ⟨a,xs,rfl,hx,hw,q⟩:=h
 cases rx
 obtain ⟨its,r,ht,hz⟩:=I.tuple hx
 have hlen : its.toArray.size = xs.length:=by rw [List.size_toArray]; exact r.length.symm
 refine ⟨"tuple",_,PyProof.Rows.slot_tuple_getitem.lookup,ht.typeIs,?_⟩
 exact getItem_tuple_full ht hs pl pu (by rw [hlen]; exact hw) ⟨.ref a,H,I,rfl,q⟩
def r3SlT : T -> Option Int -> Option Int -> Hp3 -> VK3 -> Prop:=fun x lo hi H Q => match x with
 | .tup ts => Q (.tup (cut3 ts lo hi)) H
 | _ => False
def tSlT3 (te : TE3) (tl th : TO3) : TE3:=fun σ H Q => te σ H fun x H1 => tl σ H1 fun l H2 => th σ H2 fun u H3 => r3SlT x l u H3 Q
theorem q_slT' (ts : List T) (lo hi : Option Int) (H : Hp3) (Q : VK3) : r3SlT (.tup ts) lo hi H Q = Q (.tup (cut3 ts lo hi)) H:=rfl
theorem q_tSlT (te : TE3) (tl th : TO3) (σ : St3) (H : Hp3) (Q : VK3) : tSlT3 te tl th σ H Q = te σ H fun x H1 => tl σ H1 fun l H2 => th σ H2 fun u H3 => r3SlT x l u H3 Q:=rfl
theorem e3_sliceT {e : Expr} {lo hi : Option Expr} {te : TE3} {tl th : TO3} {p2 pos : Pos} (he : PE3 X e te) (hl : PO3 X lo tl) (hu : PO3 X hi th) : PE3 X (.Subscript e (.Slice lo hi none p2) pos) (tSlT3 te tl th):=by
 refine PE.imp (pe_slice (sl_tup.or sl_tupF) he hl hu) ?_
 rintro σ H Q ⟨σ3,H3,Q3,ss,sh,h,k⟩
 refine ⟨σ3,H3,_,ss,sh,h,fun x H1 tx H31 le1 sh1 rx q1 => ⟨σ3,H31,_,ss.mono le1,sh1,q1,fun l H2 H32 le2 sh2 q2 => ⟨σ3,H32,_,ss.mono (le1.trans le2),sh2,q2,fun u H4 H34 le4 sh4 q4 => ?_⟩⟩⟩
 have k':=k.at (le1.trans (le2.trans le4))
 have rx':=rx.mono (le2.trans le4)
 cases tx with
 | tup ts =>
  rw [q_slT'] at q4
  obtain ⟨a,xs,rfl,sq,r⟩:=rx'.tup
  by_cases hw : HT.sIx xs.length 0 l = 0 /\ HT.sIx xs.length xs.length u = xs.length
  ·
   refine .inr ⟨a,xs,rfl,sq,hw,k' _ _ _ _ .refl sh4 (.ofTup sq r) ?_⟩
   have e : cut3 ts l u = ts:=by
    unfold cut3
    rw [r.length,hw.1,hw.2,Nat.sub_zero,List.drop_zero,<- r.length,List.take_length]
   rw [e] at q4
   exact q4
  ·
   exact .inl ⟨a,xs,rfl,sq,hw,fun p hp => k' _ _ _ _ (upd_tupLe hp) (sh4.new hp) (SimH.newTup (H3:=H34) hp (cut_rep r l u)) q4⟩
 | _ => exact q4.elim
end
end L3
namespace L3
open PySem PySem.Spec PyProof.Rows L2 HT
section
variable {prog : Program} {w : World} {A : Around} {E : Value -> Shared -> Prop} {s : Shared}
end
section
variable {X : Cx} {e st : Expr} {p2 pos : Pos}
def rvT (x : T) (o : Option Int) (H : Hp3) (Q : VK3) : Prop:=match x with
 | .tup ts => o = some (-1) /\ Q (.tup ts.reverse) H
 | _ => False
def tRevT3 (te : TE3) (ts : TO3) : TE3:=fun σ H Q => te σ H fun x H1 => ts σ H1 fun o H2 => rvT x o H2 Q
theorem q_revT (te : TE3) (ts : TO3) {σ : St3} {H : Hp3} {Q : VK3} : tRevT3 te ts σ H Q = te σ H fun x H1 => ts σ H1 fun o H2 => rvT x o H2 Q:=rfl
theorem q_rvT (xs : List T) (o : Option Int) {H : Hp3} {Q : VK3} : rvT (.tup xs) o H Q = (o = some (-1) /\ Q (.tup xs.reverse) H):=rfl
end
end L3
namespace L3
open PySem PySem.Spec PyProof.Rows L2
theorem items_vals {acc : Array Value} {n : Nat} (h : ItemsOf (fun i v => ∃ t,v = Value.int (0 + (i : Int) * 1) t) acc n) : Vals ((List.range n).map fun (i : Nat) => V.int (i : Int)) acc.toList:=by
 obtain ⟨hs,hv⟩:=h
 have key : ∀ (l : List Value) (k : Nat),(∀ (j : Nat) (v : Value),l[j]? = some v -> ∃ t,v = Value.int ((k : Int) + (j : Int)) t) -> Vals ((List.range' k l.length).map fun (i : Nat) => V.int (i : Int)) l:=fun l => by
  induction l with
  | nil => intro k _; exact .nil
  | cons v r ih =>
   intro k hl
   rw [List.length_cons,List.range'_succ,List.map_cons]
   refine .cons ?_ (ih (k + 1) fun j u hj => ?_)
   ·
    obtain ⟨t,e⟩:=hl 0 v rfl
    exact ⟨t,by rw [e]; congr 1⟩
   ·
    obtain ⟨t,e⟩:=hl (j + 1) u (by rw [List.getElem?_cons_succ]; exact hj)
    exact ⟨t,by rw [e]; congr 1; omega⟩
 have:=key acc.toList 0 fun j v hj => by
  obtain ⟨t,e⟩:=hv j v (by rw [<- Array.getElem?_toList]; exact hj)
  exact ⟨t,by rw [e]; congr 1; omega⟩
 rw [Array.length_toList,hs,<- List.range_eq_range'] at this
 exact this
section
variable {X : Cx} {e : Expr} {p1 p2 pos pos' : Pos}
def tLsRng (te : TE) : TE:=fun σ H Q => te σ H fun x H1 => ∃ n : Nat,x = .int (n : Int) /\ n <= 1000 /\ ∀ l,H1 l = none -> Q (.ref l) (upd H1 l (.lst ((List.range n).map fun (i : Nat) => V.int (i : Int))))
theorem pe_lsRng {te : TE} (hc : X.calm = true) (hgt : Gl X "list") (hmt : X.mg "list" = none) (hgr : Gl X "range") (hmr : X.mg "range" = none) (hvt : bootBuiltins "list" = some (.type "list")) (ha : PE X e te)
  (he : starEach [e] X.env = (false,eval e X.env) :: starEach [] X.env:=by rfl) (hpl : (backTo pos (starEach [] X.env)).any (·.1) = false:=by rfl) (hpl' : (backTo pos' (starEach [] X.env)).any (·.1) = false:=by rfl) :
  PE X (.Call (.Name "list" p1) [.Call (.Name "range" p2) [e] [] pos'] [] pos) (tLsRng te):=by
 intro pins s σ H Q I h
 refine wpAny_Call_Name_kw (ld_blt I hgt hmt hvt ?_ (by decide) (by decide))
 refine PyProof.Rows.callWith_type1 ?_ rfl hpl
 show wpAny _ _ (spliced ((false,eval (.Call (.Name "range" p2) [e] [] pos') X.env) :: backTo pos (starEach [] X.env))) _ _ s
 refine Calls.spliced_cons ?_
 refine wpAny_Call_Name_kw (ld_blt I hgr hmr boot_range ?_ (by decide) (by decide))
 refine PyProof.Rows.callWith_type1 ?_ he hpl'
 rw [he]
 show wpAny _ _ (spliced ((false,eval e X.env) :: backTo pos' (starEach [] X.env))) _ _ s
 refine Calls.spliced_cons (thn (ha pins s σ H _ I h) fun u s1 ⟨x,H1,I1,r1,n,hx,hn,q⟩ => ?_)
 subst hx
 obtain ⟨t,rfl⟩:=r1
 refine Calls.spliced_nil ?_
 refine call_range_1 ?_
 refine Calls.spliced_nil ?_
 have I2 : Inv X pins σ H1 { s1 with heap:=s1.heap.push { cls:=.type "range",data:=.fields #[.int 0 s1.toks,.int (n : Int) t,.int 1 (s1.toks + 1)] },toks:=s1.toks + 1 + 1 }:=I1.kept fun b o e => Heap.get?_push_of_some _ e
 have hsz : Builtin.Range.rangeSize 0 (n : Int) 1 = ((n : Nat) : Int):=by rw [rangeSize_one]; split <;> omega
 refine call_list_range (I2.ok.hd hc) (IsRange.new ..) (small_one (by omega) (by omega) (by omega) (by omega)) hsz (by omega) fun h' tk acc' c' hk hg hit => ?_
 have hv:=items_vals hit
 refine ⟨.ref _,_,I2.laid (t':=tk) (o:=.lst ((List.range n).map fun (i : Nat) => V.int (i : Int))) hk (Nat.le_refl _) ⟨by rw [List.length_map,List.length_range]; show n <= 16777216; omega,acc'.toList,c',hv,?_⟩,rfl,q _ (I2.hok.fresh (Nat.le_refl _))⟩
 rw [show acc'.toList.toArray = acc' by simp]
 exact hg
def lrq (x : T) (H : Hp3) (Q : VK3) : Prop:=match x with
 | .int i => (0 <= i /\ i <= 1000) /\ ∀ p,H p = none -> Q (.ref p) (up3 H p (.lst ((List.range i.toNat).map fun (k : Nat) => T.int (k : Int))))
 | _ => False
def tLsRng3 (te : TE3) : TE3:=fun σ H Q => te σ H fun x H1 => lrq x H1 Q
theorem q_lsRng (te : TE3) {σ : St3} {H : Hp3} {Q : VK3} : tLsRng3 te σ H Q = te σ H fun x H1 => lrq x H1 Q:=rfl
theorem q_lrq (i : Int) {H : Hp3} {Q : VK3} : lrq (.int i) H Q = ((0 <= i /\ i <= 1000) /\ ∀ p,H p = none -> Q (.ref p) (up3 H p (.lst ((List.range i.toNat).map fun (k : Nat) => T.int (k : Int))))):=rfl
theorem reps_rng {K : PySem.W.Frag} {H : Hp} (l : List Nat) : Reps K H (l.map fun (k : Nat) => T.int (k : Int)) (l.map fun (k : Nat) => V.int (k : Int)):=by
 induction l with
 | nil => exact .nil
 | cons k r ih => exact .cons .ofInt ih
theorem e3_lsRng {te : TE3} (hc : X.calm = true) (hgt : Gl X "list") (hmt : X.mg "list" = none) (hgr : Gl X "range") (hmr : X.mg "range" = none) (ha : PE3 X e te)
  (he : starEach [e] X.env = (false,eval e X.env) :: starEach [] X.env:=by rfl) (hpl : (backTo pos (starEach [] X.env)).any (·.1) = false:=by rfl) (hpl' : (backTo pos' (starEach [] X.env)).any (·.1) = false:=by rfl) :
  PE3 X (.Call (.Name "list" p1) [.Call (.Name "range" p2) [e] [] pos'] [] pos) (tLsRng3 te):=by
 refine PE.imp (pe_lsRng hc hgt hmt hgr hmr bt_list ha he hpl hpl') ?_
 rintro σ H Q ⟨σ3,H3,Q3,ss,sh,h,k⟩
 refine ⟨σ3,H3,_,ss,sh,h,fun v H' t H3' le sh' r q => ?_⟩
 cases t with
 | int i =>
  rw [q_lrq] at q
  rw [r.int]
  refine ⟨i.toNat,by rw [Int.toNat_of_nonneg q.1.1],by omega,fun l hl => k _ _ _ _ (le.trans (upd_tupLe hl)) (sh'.newLst hl (reps_rng _)) .ofRef (q.2 l (sh'.fresh hl))⟩
 | _ => exact q.elim
end
end L3
namespace M
open PySem PySem.Spec PyProof.Rows L2 L3
end M
namespace M
open PySem PySem.Spec PyProof.Rows L2 L3
structure isNm (x : Str) : Prop where
 lo : 1 <= x.length
 hi : x.length <= 8
 az : ∀ c ∈ x.cps.toList,97 <= c /\ c <= 122
structure Nms (ws : List Str) : Prop where
 nm : ∀ x ∈ ws,isNm x
 nd : ws.Nodup
theorem Nms.nil : Nms []:=⟨fun _ h => (nomatch h),List.nodup_nil⟩
theorem Nms.snoc {ws : List Str} {x : Str} (n : Nms ws) (h : isNm x) (hx : x ∉ ws) : Nms (ws ++ [x]) :=
 ⟨fun y hy => (List.mem_append.mp hy).elim (n.nm y) fun z => by rw [List.mem_singleton.mp z]; exact h,nd_snoc n.nd hx⟩
structure Wk where
 tasks : List (Str × Int × List Str)
 orders : List (Str × Str)
 pairs : List (Str × Str × Str)
 row : List Str
noncomputable def sT (xs : List Str) : T:=.tup (xs.map T.str)
noncomputable def tkT (t : Str × Int × List Str) : T:=.tup [.str t.1,.int t.2.1,sT t.2.2]
noncomputable def orT (o : Str × Str) : T:=.tup [.str o.1,.str o.2]
noncomputable def prT (p : Str × Str × Str) : T:=.tup [.str p.1,.str p.2.1,.str p.2.2]
noncomputable def Wk.enc (W : Wk) : T:=.tup [.tup (W.tasks.map tkT),.tup (W.orders.map orT),.tup (W.pairs.map prT),sT W.row]
structure tkOk (t : Str × Int × List Str) : Prop where
 nm : isNm t.1
 lo : 1 <= t.2.1
 hi : t.2.1 < 10 ^ 60
 ks : Nms t.2.2
 kl : t.2.2.length <= 4
structure WkOk (W : Wk) : Prop where
 t1 : 1 <= W.tasks.length
 t8 : W.tasks.length <= 8
 tk : ∀ t ∈ W.tasks,tkOk t
 nd : (W.tasks.map (·.1)).Nodup
 os : W.orders.length <= 28
 od : W.orders.Nodup
 oo : ∀ o ∈ W.orders,o.1 ≠ o.2 /\ o.1 ∈ W.tasks.map (·.1) /\ o.2 ∈ W.tasks.map (·.1)
 ps : W.pairs.length <= 12
 pd : W.pairs.Nodup
 pp : ∀ p ∈ W.pairs,(p.1 = "with" \/ p.1 = "apart") /\ p.2.1 ≠ p.2.2 /\ p.2.1 ∈ W.tasks.map (·.1) /\ p.2.2 ∈ W.tasks.map (·.1)
 r1 : 1 <= W.row.length
 r8 : W.row.length <= 8
 rn : ∀ x ∈ W.row,isNm x
theorem mem_map_inj {α : Type} {f : α -> T} (hf : ∀ {a b},f a = f b -> a = b) {x : α} {xs : List α} : f x ∈ xs.map f ↔ x ∈ xs:=by
 rw [List.mem_map]
 exact ⟨fun ⟨y,hy,e⟩ => hf e ▸ hy,fun h => ⟨x,h,rfl⟩⟩
theorem str_inj {a b : Str} (h : T.str a = T.str b) : a = b:=by injection h
theorem memN {α : Type} {f : α -> T} (hf : ∀ {a b},f a = f b -> a = b) {x : α} {xs : List α} : memB true (f x) (xs.map f) = true ↔ x ∉ xs:=by
 unfold memB
 simp [mem_map_inj hf]
theorem memI {α : Type} {f : α -> T} (hf : ∀ {a b},f a = f b -> a = b) {x : α} {xs : List α} : memB false (f x) (xs.map f) = true ↔ x ∈ xs:=by
 unfold memB
 simp [mem_map_inj hf]
theorem pl_strs (xs : List Str) : (xs.map T.str).all (pl 20) = true:=by rw [List.all_eq_true]; intro t ht; obtain ⟨x,_,rfl⟩:=List.mem_map.mp ht; rfl
theorem q_enc0 (W : Wk) (H : Hp3) (Q : VK3) : r3Ix W.enc (.int 0) H Q = Q (.tup (W.tasks.map tkT)) H:=rfl
theorem q_enc1 (W : Wk) (H : Hp3) (Q : VK3) : r3Ix W.enc (.int 1) H Q = Q (.tup (W.orders.map orT)) H:=rfl
theorem q_enc2 (W : Wk) (H : Hp3) (Q : VK3) : r3Ix W.enc (.int 2) H Q = Q (.tup (W.pairs.map prT)) H:=rfl
theorem q_enc3 (W : Wk) (H : Hp3) (Q : VK3) : r3Ix W.enc (.int 3) H Q = Q (.tup (W.row.map T.str)) H:=rfl
end M
namespace M
open PySem PySem.Spec PyProof.Rows L2 L3
noncomputable def mkS (l : List Nat) : Str:=⟨l.toArray⟩
theorem mkS_cps (l : List Nat) : (mkS l).cps.toList = l:=rfl
theorem mkS_len (l : List Nat) : (mkS l).length = l.length:=by show (l.toArray).size = _; simp
theorem mkS_of (x : Str) : ∃ l,x = mkS l:=⟨x.cps.toList,by cases x; rfl⟩
theorem mkS_inj {a b : List Nat} (h : mkS a = mkS b) : a = b:=by have:=congrArg (fun x => x.cps.toList) h; exact this
theorem mkS_app (a b : List Nat) : mkS a ++ mkS b = mkS (a ++ b):=by
 show (⟨a.toArray ++ b.toArray⟩ : Str) = ⟨(a ++ b).toArray⟩
 simp
theorem sl_to (l : List Nat) (k : Nat) (h : k <= l.length) : PySem.Txt.slice (mkS l) none (some (k : Int)) = mkS (l.take k):=by
 have e:=StrLaws.sliceText_to (x:=mkS l) (j:=(k : Int)) ⟨Int.natCast_nonneg k,by rw [mkS_cps]; omega⟩
 rw [mkS_cps,List.drop_zero,Int.sub_zero,Int.toNat_natCast] at e
 exact e
theorem sl_from (l : List Nat) (k : Nat) (h : k <= l.length) : PySem.Txt.slice (mkS l) (some (k : Int)) none = mkS (l.drop k):=by
 have e:=StrLaws.sliceText_from (x:=mkS l) (i:=(k : Int)) ⟨Int.natCast_nonneg k,by rw [mkS_cps]; omega⟩
 rw [mkS_cps,Int.toNat_natCast,List.take_of_length_le (by rw [List.length_drop]; omega)] at e
 exact e
noncomputable def abcL : List Nat:=[97,98,99,100,101,102,103,104,105,106,107,108,109,110,111,112,113,114,115,116,117,118,119,120,121,122]
theorem abc_eq : ("abcdefghijklmnopqrstuvwxyz" : Str) = mkS abcL:=by decide +kernel
theorem abc_nat : ∀ i : _root_.Fin 26,abcL[i.val]? = some (97 + i.val):=by decide
theorem abc_at (i : Int) (h0 : 0 <= i) (h1 : i < 26) : atI abcL i = some (97 + i.toNat):=by
 obtain ⟨j,rfl⟩:=Int.eq_ofNat_of_zero_le h0
 have hj : j < 26:=by omega
 have:=abc_nat ⟨j,hj⟩
 exact atI_nat (by simpa using this)
theorem abc_ix0 : ∀ i : _root_.Fin 26,Builtin.Str.occurrences (mkS abcL) (mkS [97 + i.val]) 0 26 1 = [i.val]:=by decide +kernel
theorem abc_ix (c : Nat) (h0 : 97 <= c) (h1 : c <= 122) : Builtin.Str.occurrences (mkS abcL) (mkS [c]) 0 (mkS abcL).length 1 = [c - 97]:=by
 have:=abc_ix0 ⟨c - 97,by omega⟩
 rw [show 97 + (c - 97) = c by omega] at this
 exact this
theorem nm_mk {l : List Nat} (h1 : 1 <= l.length) (h8 : l.length <= 8) (h : ∀ c ∈ l,97 <= c /\ c <= 122) : isNm (mkS l):=⟨by rw [mkS_len]; exact h1,by rw [mkS_len]; exact h8,by rw [mkS_cps]; exact h⟩
end M
namespace M
open PySem PySem.Spec PyProof.Rows L2 L3
noncomputable def tkW (t : Str × Int × List Str) : List Str:=([("task" : Str),t.1,(toString t.2.1 : String)] : List Str) ++ t.2.2
noncomputable def tkR (t : Str × Int × List Str) : Str:=PySem.Txt.join " " (tkW t)
theorem sum_le {B : Nat} : ∀ {ys : List Str},(∀ y ∈ ys,y.length <= B) -> (ys.map (·.length)).sum <= ys.length * B
 | [],_ => by simp
 | y :: r,h => by
  have h1:=h y List.mem_cons_self
  have h2:=sum_le (ys:=r) fun z hz => h z (List.mem_cons_of_mem _ hz)
  simp only [List.map_cons,List.sum_cons,List.length_cons,Nat.succ_mul]
  omega
theorem jn_len (z : Str) (ys : List Str) : (PySem.Txt.join z ys).length = (ys.map (·.length)).sum + (ys.length - 1) * z.length:=size_glued z ys
theorem sp_len : (" " : Str).length = 1:=by decide +kernel
theorem jn_le {z : Str} {ys : List Str} {B n : Nat} (hz : z.length = 1) (hn : ys.length <= n) (h : ∀ y ∈ ys,y.length <= B) : (PySem.Txt.join z ys).length <= n * B + n:=by
 rw [jn_len,hz]
 have h1:=sum_le h
 have h2 : ys.length * B <= n * B:=Nat.mul_le_mul_right B hn
 omega
theorem wd_task : ("task" : Str).length = 4:=by decide +kernel
theorem wd_order : ("order" : Str).length = 5:=by decide +kernel
theorem wd_with : ("with" : Str).length = 4:=by decide +kernel
theorem wd_apart : ("apart" : Str).length = 5:=by decide +kernel
theorem wd_row : ("row" : Str).length = 3:=by decide +kernel
theorem num_len {n : Int} (h1 : 1 <= n) (h : n < 10 ^ 60) : ((toString n : String) : Str).length <= 60:=toString_length_le (by omega) (by decide) h
theorem tkW_le {t : Str × Int × List Str} (h : tkOk t) : (tkW t).length <= 7 /\ ∀ y ∈ tkW t,y.length <= 60:=by
 unfold tkW
 refine ⟨by have:=h.kl; simp only [List.length_append,List.length_cons,List.length_nil]; omega,fun y hy => ?_⟩
 rcases List.mem_append.mp hy with hy | hy
 ·
  simp only [List.mem_cons,List.not_mem_nil,or_false] at hy
  rcases hy with rfl | rfl | rfl
  ·
   rw [wd_task]; decide
  ·
   exact Nat.le_trans h.nm.hi (by decide)
  ·
   exact num_len h.lo h.hi
 ·
  exact Nat.le_trans (h.ks.nm y hy).hi (by decide)
theorem tkR_le {t : Str × Int × List Str} (h : tkOk t) : (tkR t).length <= 500:=Nat.le_trans (jn_le sp_len (tkW_le h).1 (tkW_le h).2) (by decide)
theorem or_le {o : Str × Str} (h1 : isNm o.1) (h2 : isNm o.2) : ∀ y ∈ (["order",o.1,o.2] : List Str),y.length <= 8:=fun y hy => by
 simp only [List.mem_cons,List.not_mem_nil,or_false] at hy
 rcases hy with rfl | rfl | rfl
 ·
  rw [wd_order]; decide
 ·
  exact h1.hi
 ·
  exact h2.hi
theorem pr_le {o : Str × Str × Str} (h0 : o.1 = "with" \/ o.1 = "apart") (h1 : isNm o.2.1) (h2 : isNm o.2.2) : ∀ y ∈ ([o.1,o.2.1,o.2.2] : List Str),y.length <= 8:=fun y hy => by
 simp only [List.mem_cons,List.not_mem_nil,or_false] at hy
 rcases hy with rfl | rfl | rfl
 ·
  rcases h0 with h0 | h0
  ·
   rw [h0,wd_with]; decide
  ·
   rw [h0,wd_apart]; decide
 ·
  exact h1.hi
 ·
  exact h2.hi
theorem rw_le {xs : List Str} (h : ∀ x ∈ xs,isNm x) : ∀ y ∈ (([("row" : Str)] : List Str) ++ xs),y.length <= 8:=fun y hy => by
 rcases List.mem_append.mp hy with hy | hy
 ·
  rw [List.mem_singleton.mp hy,wd_row]; decide
 ·
  exact (h y hy).hi
end M
set_option maxHeartbeats 1000000
namespace L3
open PySem PySem.Spec PyProof.Rows L2 PySem.Builtin PySem.Builtin.Str
section
variable {prog : Program} {w : World} {A : Around} {E : Value -> Shared -> Prop} {s : Shared} {x y : Str} {t u : Tok} {Q : Value -> Shared -> Prop}
end
section
variable {X : Cx}
end
end L3
set_option maxHeartbeats 4000000
namespace L3
open PySem PySem.Spec PyProof.Rows L2
section
variable {prog : Program} {w : World} {A : Around} {E : Value -> Shared -> Prop} {s : Shared}
end
section
variable {prog : Program} {w : World} {A : Around} {E : Value -> Shared -> Prop} {s : Shared}
end
end L3
namespace L3
open PySem PySem.Spec PyProof.Rows L2
end L3
set_option maxHeartbeats 1000000
namespace L3
open PySem PySem.Spec PyProof.Rows L2
section
variable {X : Cx} {elts : List Expr} {x1 j : Nat} {tpos pos p cp kp : Pos} {e : Expr}
theorem bt_enumerate : bootBuiltins "enumerate" = some (.type "enumerate"):=by decide +kernel
end
end L3
set_option maxHeartbeats 4000000
namespace L3
open PySem PySem.Spec PyProof.Rows L2
section
variable {X : Cx} {tg l : Expr}
end
end L3
namespace L3
open PySem PySem.Spec PyProof.Rows L2
section
variable {prog : Program} {w : World} {A : Around} {E : Value -> Shared -> Prop} {s : Shared}
end
end L3
set_option maxHeartbeats 1000000
namespace L3
open PySem PySem.Spec PyProof.Rows L2
section
variable {X : Cx} {e : Expr} {te : TE} {p1 p2 pos pos' : Pos}
end
end L3
namespace L3
open PySem PySem.Spec PyProof.Rows L2
section
variable {X : Cx} {pins : List (Addr × Obj)} {σ : L2.St} {H : Hp} {s : Shared}
end
section
variable {X : Cx}
end
end L3
namespace L3
open PySem PySem.Spec PyProof.Rows L2
section
variable {X : Cx} {a : Expr} {ta : TE3} {pos : Pos}
def ngq (x : T) (H : Hp3) (Q : VK3) : Prop:=match x with
 | .int i => Q (.int (-i)) H
 | _ => False
def tNeg3 (ta : TE3) : TE3:=fun σ H Q => ta σ H fun x H1 => ngq x H1 Q
theorem q_neg (ta : TE3) {σ : St3} {H : Hp3} {Q : VK3} : tNeg3 ta σ H Q = ta σ H fun x H1 => ngq x H1 Q:=rfl
theorem q_ngq (i : Int) {H : Hp3} {Q : VK3} : ngq (.int i) H Q = Q (.int (-i)) H:=rfl
theorem e3_neg (ha : PE3 X a ta) : PE3 X (.UnaryOp .USub a pos) (tNeg3 ta):=by
 refine PE.imp (pe_un un_neg ha) ?_
 rintro σ H Q ⟨σ3,H3,Q3,ss,sh,h,k⟩
 refine ⟨σ3,H3,_,ss,sh,h,fun v H' t H3' le sh' r q => ?_⟩
 cases t with
 | int i => exact ⟨i,r.int,k _ _ _ _ le sh' .ofInt q⟩
 | _ => exact q.elim
def r3IntT : List T -> Hp3 -> VK3 -> Prop:=fun ts H Q => match ts with
 | [.str x] => x.length <= 640 /\ oq (PySem.intText? x) fun n => Q (.int n) H
 | _ => False
theorem q_intT (x : Str) {H : Hp3} {Q : VK3} : r3IntT [.str x] H Q = (x.length <= 640 /\ oq (PySem.intText? x) fun n => Q (.int n) H):=rfl
end
end L3
set_option maxHeartbeats 4000000
namespace M
open PySem PySem.Spec PyProof.Rows L2 L3
noncomputable def glue (c : Nat) : List (List Nat) -> List Nat
 | [] => []
 | [x] => x
 | x :: y :: r => x ++ c :: glue c (y :: r)
theorem cut_eq {c : Nat} : ∀ {x y A B : List Nat},c ∉ x -> c ∉ y -> x ++ c :: A = y ++ c :: B -> x = y /\ A = B
 | [],[],A,B,_,_,h => by simp at h; exact ⟨rfl,h⟩
 | [],b :: y,A,B,_,hy,h => by
  simp at h
  exact absurd h.1 (fun e => hy (e ▸ List.mem_cons_self))
 | a :: x,[],A,B,hx,_,h => by
  simp at h
  exact absurd h.1.symm (fun e => hx (e ▸ List.mem_cons_self))
 | a :: x,b :: y,A,B,hx,hy,h => by
  simp only [List.cons_append,List.cons.injEq] at h
  obtain ⟨e,h⟩:=h
  have:=cut_eq (fun z => hx (List.mem_cons_of_mem _ z)) (fun z => hy (List.mem_cons_of_mem _ z)) h
  exact ⟨by rw [e,this.1],this.2⟩
theorem glue_inj {c : Nat} : ∀ {xs ys : List (List Nat)},xs ≠ [] -> ys ≠ [] -> (∀ x ∈ xs,c ∉ x) -> (∀ y ∈ ys,c ∉ y) -> glue c xs = glue c ys -> xs = ys
 | [],_,h,_,_,_,_ => absurd rfl h
 | _,[],_,h,_,_,_ => absurd rfl h
 | [x],[y],_,_,_,_,h => by rw [show x = y from h]
 | [x],y :: y2 :: r,_,_,hx,_,h => by
  have h' : x = y ++ c :: glue c (y2 :: r):=h
  exact absurd (show c ∈ x by rw [h']; simp) (hx x List.mem_cons_self)
 | x :: x2 :: r,[y],_,_,_,hy,h => by
  have h' : x ++ c :: glue c (x2 :: r) = y:=h
  exact absurd (show c ∈ y by rw [<- h']; simp) (hy y List.mem_cons_self)
 | x :: x2 :: r,y :: y2 :: r',_,_,hx,hy,h => by
  obtain ⟨e,h⟩:=cut_eq (hx x List.mem_cons_self) (hy y List.mem_cons_self) h
  rw [e,glue_inj (by simp) (by simp) (fun z hz => hx z (List.mem_cons_of_mem _ hz)) (fun z hz => hy z (List.mem_cons_of_mem _ hz)) h]
theorem cps_app (a b : Str) : (a ++ b).cps.toList = a.cps.toList ++ b.cps.toList:=by
 show (a.cps ++ b.cps).toList = _
 simp
theorem join_glue (c : Nat) : ∀ xs : List Str,(Str.join ⟨#[c]⟩ xs).cps.toList = glue c (xs.map fun x => x.cps.toList)
 | [] => rfl
 | [x] => rfl
 | x :: y :: r => by
  show (x ++ ⟨#[c]⟩ ++ Str.join ⟨#[c]⟩ (y :: r)).cps.toList = _
  rw [cps_app,cps_app,join_glue c (y :: r)]
  simp [glue]
theorem str_ext {a b : Str} (h : a.cps.toList = b.cps.toList) : a = b:=by
 obtain ⟨l,rfl⟩:=mkS_of a
 obtain ⟨m,rfl⟩:=mkS_of b
 rw [mkS_cps,mkS_cps] at h
 rw [h]
theorem map_cps_inj : ∀ {xs ys : List Str},xs.map (fun x => x.cps.toList) = ys.map (fun x => x.cps.toList) -> xs = ys
 | [],[],_ => rfl
 | [],_ :: _,h => by cases h
 | _ :: _,[],h => by cases h
 | x :: xs,y :: ys,h => by
  simp only [List.map_cons,List.cons.injEq] at h
  rw [str_ext h.1,map_cps_inj h.2]
theorem split_ne (x y : Str) : Txt.split x y ≠ []:=by
 unfold Txt.split
 split
 ·
  simp
 ·
  split
  ·
   simp
  ·
   intro h
   have:=congrArg List.length h
   rw [length_partsBetween] at this
   simp at this
theorem split_join {c : Nat} {ws : List Str} (hn : ws ≠ []) (hc : ∀ w ∈ ws,c ∉ w.cps.toList) : Txt.split (Str.join ⟨#[c]⟩ ws) ⟨#[c]⟩ = ws:=by
 have h1:=StrLaws.join_split (Str.join ⟨#[c]⟩ ws) ⟨#[c]⟩
 have h2:=StrLaws.split_free (Str.join ⟨#[c]⟩ ws) c
 have h3:=congrArg (fun z : Str => z.cps.toList) h1
 simp only [join_glue] at h3
 refine map_cps_inj (glue_inj (c:=c) (by simp [split_ne]) (by simp [hn]) ?_ ?_ h3)
 ·
  intro x hx
  obtain ⟨p,hp,rfl⟩:=List.mem_map.mp hx
  exact h2 p hp
 ·
  intro x hx
  obtain ⟨p,hp,rfl⟩:=List.mem_map.mp hx
  exact hc p hp
theorem sp_eq : (" " : Str) = ⟨#[32]⟩:=by decide +kernel
theorem jn_eq (z : Str) (ys : List Str) : PySem.Txt.join z ys = Str.join z ys:=by
 exact PySem.StrLaws.glued_eq_join z ys
theorem sp_split {ws : List Str} (hn : ws ≠ []) (hc : ∀ w ∈ ws,32 ∉ w.cps.toList) : Txt.split (PySem.Txt.join " " ws) " " = ws:=by
 rw [jn_eq,sp_eq]; exact split_join hn hc
theorem glue_mem {c d : Nat} : ∀ {xs : List (List Nat)},d ∈ glue c xs -> d = c \/ ∃ x ∈ xs,d ∈ x
 | [],h => by cases h
 | [x],h => .inr ⟨x,by simp,h⟩
 | x :: y :: r,h => by
  have h' : d ∈ x ++ c :: glue c (y :: r):=h
  rw [List.mem_append,List.mem_cons] at h'
  rcases h' with h' | h' | h'
  ·
   exact .inr ⟨x,by simp,h'⟩
  ·
   exact .inl h'
  ·
   rcases glue_mem h' with e | ⟨z,hz,e⟩
   ·
    exact .inl e
   ·
    exact .inr ⟨z,List.mem_cons_of_mem _ hz,e⟩
theorem jn_free {ws : List Str} (hc : ∀ w ∈ ws,10 ∉ w.cps.toList) : 10 ∉ (PySem.Txt.join " " ws).cps.toList:=by
 rw [jn_eq,sp_eq,join_glue]
 intro h
 rcases glue_mem h with e | ⟨x,hx,e⟩
 ·
  exact absurd e (by decide)
 ·
  obtain ⟨p,hp,rfl⟩:=List.mem_map.mp hx
  exact hc p hp e
def cleanS (w : Str) : Prop:=∀ c ∈ w.cps.toList,48 <= c
theorem isNm.clean {x : Str} (h : isNm x) : cleanS x:=fun c hc => by have:=h.az c hc; omega
theorem cleanS.no {w : Str} (h : cleanS w) {c : Nat} (hc : c < 48) : c ∉ w.cps.toList:=fun z => by have:=h c z; omega
theorem cl_task : cleanS "task":=by unfold cleanS; decide +kernel
theorem cl_order : cleanS "order":=by unfold cleanS; decide +kernel
theorem cl_with : cleanS "with":=by unfold cleanS; decide +kernel
theorem cl_apart : cleanS "apart":=by unfold cleanS; decide +kernel
theorem cl_row : cleanS "row":=by unfold cleanS; decide +kernel
theorem num_nat {n : Int} (h1 : 1 <= n) : ∃ m : Nat,n = m /\ 1 <= m:=⟨n.toNat,by omega,by omega⟩
theorem num_signs (m : Nat) : (((toString ((m : Nat) : Int) : String) : Str)).cps.toList = (Nat.toDigits 10 m).map Char.toNat:=PySem.W.KIN.signs_num m
theorem num_dig {m c : Nat} (h : c ∈ (Nat.toDigits 10 m).map Char.toNat) : 48 <= c /\ c <= 57:=by
 obtain ⟨ch,hch,e⟩:=List.mem_map.mp h
 have r:=PyProof.Rows.digit_range (Nat.isDigit_of_mem_toDigits (by decide) (by decide) hch)
 rw [<- e]
 exact r
theorem cl_num {n : Int} (h1 : 1 <= n) : cleanS ((toString n : String) : Str):=by
 obtain ⟨m,rfl,_⟩:=num_nat h1
 intro c hc
 rw [num_signs] at hc
 exact (num_dig hc).1
end M
namespace L3
open PySem PySem.Spec PyProof.Rows L2
theorem cut_f1 (a : T) (r : List T) : cut3 (a :: r) (some 1) none = r:=cut_from (k:=1)
theorem cut_f2 (a b : T) (r : List T) : cut3 (a :: b :: r) (some 2) none = r:=cut_from (k:=2)
theorem cut_f3 (a b c : T) (r : List T) : cut3 (a :: b :: c :: r) (some 3) none = r:=cut_from (k:=3)
structure Shut (p : Prop) : Prop where
 out : p
theorem seq_cut {t u : TS3} {D : Ends3} {σ : St3} {H : Hp3} (h : ∀ R,Shut (R = u) -> (tSeq3 t R) D σ H) : (tSeq3 t u) D σ H:=h u ⟨rfl⟩
theorem while_cut {c : TT3} {tb : TS3} {D : Ends3} {σ : St3} {H : Hp3} (W : Nat -> St3 -> Hp3 -> Prop) (h0 : ∃ m,W m σ H) (h1 : ∀ m σ H,W m σ H -> ∀ (WI : Nat -> St3 -> Hp3 -> Prop) (TB : TS3) (NX : St3 -> Hp3 -> Prop),Shut (WI = W) -> Shut (TB = tb) -> Shut (NX = D.nx) ->
  c σ H fun b H1 => if b = true then TB { D with nx:=fun σ' H' => ∃ m',m' < m /\ WI m' σ' H',ct:=fun σ' H' => ∃ m',m' < m /\ WI m' σ' H',bk:=D.nx } σ H1 else NX σ H1) : tWhile3 c tb D σ H :=
 ⟨W,h0,fun m σ H w => h1 m σ H w W tb D.nx ⟨rfl⟩ ⟨rfl⟩ ⟨rfl⟩⟩
theorem cIter_filt {α : Type} (enc f : α -> T) (p : α -> Bool) (as : List α) (rest : St3) {tt : TT3} {te : TE3} {still : Hp3 -> Prop} {fin : List T -> Hp3 -> Prop} {v : Option T} {H : Hp3} (hst : still H) (hl : as.length <= sizeLine)
  (hc : ∀ a ∈ as,∀ Q : Bool -> Hp3 -> Prop,Q (p a) H -> tt (some (enc a) :: rest) H Q)
  (ht : ∀ a ∈ as,p a = true -> ∀ Q : VK3,Q (f a) H -> te (some (enc a) :: rest) H Q) (hfin : fin ((as.filter p).map f) H) : cIter3 (gName3 0) tt te still fin (as.map enc) [] (v :: rest) H:=by
 refine cIter_go (fun r ys σ H' => ∃ (rs ds : List α) (v : Option T),σ = v :: rest /\ r = rs.map enc /\ ys = (ds.filter p).map f /\ ds ++ rs = as /\ H' = H) ⟨as,[],v,rfl,rfl,rfl,rfl,rfl⟩ ?_ ?_
 ·
  rintro ys σ H' ⟨rs,ds,v,rfl,hrs,rfl,hsp,rfl⟩
  have hrs' : rs = []:=List.map_eq_nil_iff.mp hrs.symm
  subst hrs'
  rw [List.append_nil] at hsp
  subst hsp
  exact ⟨hst,by rw [List.length_map]; exact Nat.le_trans (List.length_filter_le _ _) hl,hfin⟩
 ·
  rintro x r ys σ H' N ⟨rs,ds,v,rfl,hrs,rfl,hsp,rfl⟩ hN
  cases rs with
  | nil => cases hrs
  | cons t rs =>
   injection hrs with e1 e2
   subst e1 e2
   refine ⟨hst,?_⟩
   show tt (some (enc t) :: rest) H' _
   refine hc t (by rw [<- hsp]; simp) _ ?_
   cases hp : p t with
   | true =>
    rw [if_pos rfl]
    refine ht t (by rw [<- hsp]; simp) hp _ ⟨?_,hN _ _ _ ⟨rs,ds ++ [t],_,rfl,rfl,by simp [hp],by rw [<- hsp]; simp,rfl⟩⟩
    have:=congrArg List.length hsp
    simp only [List.length_append,List.length_cons] at this
    rw [List.length_map]
    have:=List.length_filter_le p ds
    omega
   | false =>
    rw [if_neg Bool.false_ne_true]
    exact hN _ _ _ ⟨rs,ds ++ [t],_,rfl,rfl,by simp [hp],by rw [<- hsp]; simp,rfl⟩
end L3
namespace M
open PySem PySem.Spec PyProof.Rows L2 L3
inductive Rw where
 | tk (t : Str × Int × List Str) | od (o : Str × Str) | pr (p : Str × Str × Str)
noncomputable def Rw.words : Rw -> List Str
 | .tk t => tkW t
 | .od o => ["order",o.1,o.2]
 | .pr p => [p.1,p.2.1,p.2.2]
noncomputable def prs : List Rw -> List (Str × Str × Str)
 | [] => []
 | .pr p :: r => p :: prs r
 | _ :: r => prs r
inductive RowW : List Str -> Prop
 | tk {t : Str × Int × List Str} (h : tkOk t) : RowW (tkW t)
 | od {a b : Str} (h1 : isNm a) (h2 : isNm b) : RowW ["order",a,b]
 | pr {z a b : Str} (h0 : z = "with" \/ z = "apart") (h1 : isNm a) (h2 : isNm b) : RowW [z,a,b]
 | row {xs : List Str} (h1 : 1 <= xs.length) (h8 : xs.length <= 8) (h : ∀ x ∈ xs,isNm x) : RowW (([("row" : Str)] : List Str) ++ xs)
theorem RowW.ne {ws : List Str} (h : RowW ws) : ws ≠ []:=by cases h <;> simp [tkW]
theorem RowW.clean {ws : List Str} (h : RowW ws) : ∀ w ∈ ws,cleanS w:=by
 intro w hw
 cases h with
 | tk h =>
  rcases List.mem_append.mp hw with hw | hw
  ·
   simp only [List.mem_cons,List.not_mem_nil,or_false] at hw
   rcases hw with rfl | rfl | rfl
   ·
    exact cl_task
   ·
    exact h.nm.clean
   ·
    exact cl_num h.lo
  ·
   exact (h.ks.nm w hw).clean
 | od h1 h2 =>
  simp only [List.mem_cons,List.not_mem_nil,or_false] at hw
  rcases hw with rfl | rfl | rfl
  ·
   exact cl_order
  ·
   exact h1.clean
  ·
   exact h2.clean
 | pr h0 h1 h2 =>
  simp only [List.mem_cons,List.not_mem_nil,or_false] at hw
  rcases hw with rfl | rfl | rfl
  ·
   rcases h0 with rfl | rfl
   ·
    exact cl_with
   ·
    exact cl_apart
  ·
   exact h1.clean
  ·
   exact h2.clean
 | row h1 h8 h =>
  rcases List.mem_append.mp hw with hw | hw
  ·
   rw [List.mem_singleton.mp hw]; exact cl_row
  ·
   exact (h w hw).clean
theorem RowW.split {ws : List Str} (h : RowW ws) : PySem.Txt.split (PySem.Txt.join " " ws) " " = ws:=sp_split h.ne fun w hw => (h.clean w hw).no (by decide)
theorem RowW.len {ws : List Str} (h : RowW ws) : (PySem.Txt.join " " ws).length <= 500:=by
 cases h with
 | tk h => exact tkR_le h
 | od h1 h2 => exact Nat.le_trans (jn_le sp_len (n:=3) (by simp) (or_le (o:=(_,_)) h1 h2)) (by decide)
 | pr h0 h1 h2 => exact Nat.le_trans (jn_le sp_len (n:=3) (by simp) (pr_le (o:=(_,_,_)) h0 h1 h2)) (by decide)
 | row h1 h8 h => exact Nat.le_trans (jn_le sp_len (n:=9) (by simp only [List.length_append,List.length_singleton]; omega) (rw_le h)) (by decide)
theorem RowW.free {ws : List Str} (h : RowW ws) : 10 ∉ (PySem.Txt.join " " ws).cps.toList:=jn_free fun w hw => (h.clean w hw).no (by decide)
end M
namespace L3
open PySem PySem.Spec PyProof.Rows L2
section
variable {X : Cx} {elts : List Expr} {x1 : Nat} {tpos pos p : Pos} {e : Expr}
noncomputable def enum0 (k : Int) : List T -> List T
 | [] => []
 | x :: r => .tup [.int k,x] :: enum0 (k + 1) r
theorem enum0_get : ∀ (k : Int) (xs : List T) (i : Nat),(enum0 k xs)[i]? = xs[i]?.map fun x => .tup [.int (k + i),x]
 | _,[],i => by simp [enum0]
 | k,x :: xs,0 => by simp [enum0]
 | k,x :: xs,i + 1 => by
  simp only [enum0,List.getElem?_cons_succ]
  rw [enum0_get (k + 1) xs i]
  have : k + 1 + (i : Int) = k + ((i + 1 : Nat) : Int):=by omega
  rw [this]
theorem enum0_len : ∀ (k : Int) (xs : List T),(enum0 k xs).length = xs.length
 | _,[] => rfl
 | k,x :: xs => by simp [enum0,enum0_len (k + 1) xs]
def en0H (o : Option O3) (a : Addr) (H : Hp3) (R : List T -> (Hp3 -> Prop) -> Hp3 -> Prop) : Prop:=match o with
 | some (.lst ts) => R (enum0 0 ts) (stillL a ts) H
 | _ => False
def en0q (x : T) (H : Hp3) (R : List T -> (Hp3 -> Prop) -> Hp3 -> Prop) : Prop:=match x with
 | .ref a => en0H (H a) a H R
 | _ => False
def iEnum03 (te : TE3) : TI3:=fun σ H R => te σ H fun x H1 => en0q x H1 R
theorem q_iEnum0 (te : TE3) {σ : St3} {H : Hp3} {R : List T -> (Hp3 -> Prop) -> Hp3 -> Prop} : iEnum03 te σ H R = te σ H fun x H1 => en0q x H1 R:=rfl
theorem q_en0q (a : Addr) {H : Hp3} {R : List T -> (Hp3 -> Prop) -> Hp3 -> Prop} : en0q (.ref a) H R = en0H (H a) a H R:=rfl
theorem q_en0H (ts : List T) (a : Addr) {H : Hp3} {R : List T -> (Hp3 -> Prop) -> Hp3 -> Prop} : en0H (some (.lst ts)) a H R = R (enum0 0 ts) (stillL a ts) H:=rfl
end
theorem o3_shl {X : Cx} : OpR3 X (binaryOp .LShift) (rI3 CPow fun i j => .int (i * 2 ^ j.toNat)):=o3_I op_shl fun _ _ _ => .ofInt
end L3
namespace L3
open PySem PySem.Spec PyProof.Rows L2
theorem meets_enumT (l : Addr) (items : Array Value) (n : Nat) (dct : Option Addr) (sl : Array (Option Value)) :
  Meets (Builtin.«enumerate.__new__» ⟨[.type "enumerate",.ref l],[]⟩) (fun _ R s => s.heap.get? l = some { cls:=.type "tuple",dict:=dct,data:=.seq items n,slots:=sl } /\
   R (.ok (.ret (.ref (s.heap.push { cls:=.type "tuple_iterator",data:=.fields #[.ref l,.int 0 0] }).objs.size)))
    { s with heap:=(s.heap.push { cls:=.type "tuple_iterator",data:=.fields #[.ref l,.int 0 0] }).push { cls:=.type "enumerate",data:=.fields #[.none,.bool false,.ref s.heap.objs.size,rawInt 0,.none,.none] } }) :=
 .of_wp fun prog w A R s h => by
  obtain ⟨hp,g,d,tk,os⟩:=s; obtain ⟨hl,h⟩:=h
  have hsub:=sub_enumerate
  have hL : Heap.IsTuple (Shared.heap ⟨hp,g,d,tk,os⟩) l items:=⟨_,hl,rfl,n,rfl⟩
  wp_walk using AutoSeq1.wpAny_loadPart' hl
  refine wpAny_stack_any fun st => wpAny_pure ?_
  split
  ·
   rename_i c _ _ _ _ _
   cases (c == Value.type "enumerate")
   ·
    wp_walk using AutoSeq1.wpAny_loadPart' hl,wpAny_pyIter_tuple hL
    exact ⟨_,rfl,h⟩
   ·
    wp_walk using AutoSeq1.wpAny_loadPart' hl,wpAny_pyIter_tuple hL
    exact ⟨_,rfl,h⟩
  ·
   wp_walk using AutoSeq1.wpAny_loadPart' hl,wpAny_pyIter_tuple hL
   exact ⟨_,rfl,h⟩
theorem call_enumerate_tup {prog : Program} {w : World} {A : Around} {E : Value -> Shared -> Prop} {s : Shared} {l : Addr} {items : Array Value} {Q : Value -> Shared -> Prop} (hL : s.heap.IsTuple l items)
  (h : ∀ h',IsEnum h' (s.heap.objs.size + 1) s.heap.objs.size 0 .none -> h'.IsTupleIter s.heap.objs.size l 0 -> h'.objs.size = s.heap.objs.size + 2 ->
   (∀ b o,s.heap.get? b = some o -> h'.get? b = some o) -> Q (.ref (s.heap.objs.size + 1)) { s with heap:=h' }) :
  wpAny (model prog w) A (call (.type "enumerate") [.ref l]) Q E s:=by
 obtain ⟨⟨c,dct,dt,sl⟩,hl,hc,n,hd⟩:=hL
 replace hc : c = .type "tuple":=hc
 replace hd : dt = .seq items n:=hd
 subst hc hd
 refine callType_new F.called_enumerate (by decide) (F.typeCall_enumerate_1 _) (F.newCall_enumerate_1 _) (fun obj => F.args_object_init_2 obj _) F.entry_enumerate_new
  (meets_enumT l items n dct sl) ⟨hl,?_⟩
 have hz : (s.heap.push { cls:=.type "tuple_iterator",data:=.fields #[.ref l,.int 0 0] }).objs.size = s.heap.objs.size + 1:=Heap.size_push ..
 show _ /\ _
 rw [hz]
 have he : IsEnum ((s.heap.push { cls:=.type "tuple_iterator",data:=.fields #[.ref l,.int 0 0] }).push
   { cls:=.type "enumerate",data:=.fields #[.none,.bool false,.ref s.heap.objs.size,rawInt 0,.none,.none] }) (s.heap.objs.size + 1) s.heap.objs.size 0 .none:=by
  have:=Heap.get?_push_size (s.heap.push { cls:=.type "tuple_iterator",data:=.fields #[.ref l,.int 0 0] })
   (o:={ cls:=.type "enumerate",data:=.fields #[.none,.bool false,.ref s.heap.objs.size,rawInt 0,.none,.none] }) rfl
  rw [hz] at this; exact this
 refine ⟨⟨_,he,rfl⟩,h _ he ⟨_,Heap.get?_push_of_some _ (Heap.get?_push_size _ rfl),rfl,rfl⟩ (by rw [Heap.size_push,hz]) fun b o x => Heap.get?_push_of_some _ (Heap.get?_push_of_some _ x)⟩
noncomputable def IteT (K : PySem.W.Frag) (a : Addr) : It :=
 ⟨fun i H => ∃ xs x,SqT K H a xs /\ xs[i]? = some x,
  fun i H v H' => ∃ p x,v = .ref p /\ H p = none /\ H' = upd H p (.tup [.int (i : Int),x]) /\ ∀ xs,SqT K H a xs -> xs[i]? = some x,
  fun i H => ∃ xs,SqT K H a xs /\ xs.length <= i⟩
theorem turn_enumT {P : Program} {w : World} {K : PySem.W.Frag} {elts : List Expr} {x1 : Nat} {pos : Pos} (a it e : Addr) (l1 : a < it) (l2 : it < e) :
  Turn P w K (.Tuple elts x1 pos) (IteT K a) [e,it] e (fun i h => (∃ old,IsEnum h e it (i : Int) old) /\ h.IsTupleIter it a i) where
 mem:=List.mem_cons_self
 obj:=fun i h st c hc => by
  obtain ⟨⟨old,he⟩,⟨o1,e1,_,d1⟩⟩:=st
  simp only [List.mem_cons,List.not_mem_nil,or_false] at hc
  rcases hc with rfl | rfl
  ·
   exact ⟨_,he,fun v z => by cases z⟩
  ·
   exact ⟨_,e1,fun v z => by rw [d1] at z; cases z⟩
 keep:=fun i h h' st k => by
  obtain ⟨⟨old,he⟩,h1⟩:=st
  exact ⟨⟨old,k e (by simp) _ he⟩,h1.at fun o q => k it (by simp) o q⟩
 item:=by
  intro X hP hw hK hc i pins s σ H E I hf st hg
  subst hP hw hK
  obtain ⟨xs,x,hq,hx⟩:=hg
  obtain ⟨its,rv,p,hz⟩:=I.tuple hq
  obtain ⟨u,hu,ru⟩:=rv.get hx
  obtain ⟨⟨old,he⟩,h1⟩:=st
  have hu' : its.toArray[i]? = some u:=by simpa using hu
  have hai : a ≠ it:=Nat.ne_of_lt l1
  have hei : e ≠ it:=Nat.ne_of_gt l2
  have hea : e ≠ a:=Nat.ne_of_gt (Nat.lt_trans l1 l2)
  have hef : e ∉ [it,a]:=by simp [hei,hea]
  have D:=drawsT (prog:=X.prog) (w:=X.w) (A:=X.A.in1) (I.ok.hd hc) it a hai its.toArray
  refine wpAny_pyNext_enum_itemD (i:=i) D he ⟨h1,p⟩ (Array.getElem?_eq_some_iff.mp hu').1 hei hef fun x' h' tk px ho hs' hT hsz kp => ?_
  have e1 : x' = u:=Option.some.inj (px.symm.trans hu')
  subst e1
  obtain ⟨hs1,hs2⟩:=hs'
  refine ⟨_,rfl,wpAny_letOwnedTupleGo_enum ho fun h2' hz2' sb => ?_⟩
  have kp2 : ∀ c o,c ∉ [e,it] -> s.heap.get? c = some o -> h2'.get? c = some o:=fun c o nc q => (sb.2 c fun z => nc (z ▸ List.mem_cons_self)).trans (kp c o (fun z => nc (z ▸ List.mem_cons_self)) (fun z => nc (by simp [z])) q)
  have lt : ∀ {c o},s.heap.get? c = some o -> s.heap.objs.size ≠ c:=fun q => Nat.ne_of_gt (Heap.lt_size q)
  have lt1 : ∀ {c : Addr},c ∈ [e,it] -> c ≠ s.heap.objs.size:=fun {c} hc => by
   simp only [List.mem_cons,List.not_mem_nil,or_false] at hc
   rcases hc with q | q <;> subst q
   ·
    exact Ne.symm (lt he)
   ·
    obtain ⟨o,q,_⟩:=h1; exact Ne.symm (lt q)
  have hTe : s.heap.objs.size ≠ e:=lt he
  have I1 : Inv X pins σ (upd H s.heap.objs.size (.tup [.int (i : Int),x])) { s with heap:=s.heap.push { cls:=.type "tuple",data:=.seq #[.int (i : Int) tk,x'] },toks:=tk + 1 } :=
   I.laid (t':=tk + 1) (fun b o q => Heap.get?_push_of_some _ q) (Nat.le_refl _) (show ObjOk X.prog X.w _ _ _ (.tup [.int (i : Int),x]) from ⟨by show 2 <= sizeLine; decide,[.int (i : Int) tk,x'],.cons ⟨tk,rfl⟩ (.cons ru .nil),Tup0.new _ _⟩)
  have I2 : Inv X pins σ (upd H s.heap.objs.size (.tup [.int (i : Int),x])) { s with heap:=h2',toks:=tk + 1 }:=turnedL (s:={ s with heap:=s.heap.push { cls:=.type "tuple",data:=.seq #[.int (i : Int) tk,x'] },toks:=tk + 1 }) (ch:=[e,it]) (t':=tk + 1) I1 (fun c o nc q => by
   by_cases z : c = s.heap.objs.size
   ·
    subst z
    have q' : (s.heap.push { cls:=.type "tuple",data:=.seq #[.int (i : Int) tk,x'] }).get? s.heap.objs.size = some o:=q
    rw [Heap.get?_push_size _ rfl] at q'
    cases q'
    exact (sb.2 _ hTe).trans hT
   ·
    have q' : (s.heap.push { cls:=.type "tuple",data:=.seq #[.int (i : Int) tk,x'] }).get? c = some o:=q
    rw [Heap.get?_push_ne _ _ _ z] at q'
    exact kp2 c o nc q') fun c hc => ⟨by rw [upd_ne (lt1 hc)]; exact (hf c hc).1,(hf c hc).2⟩
  refine ⟨.ref s.heap.objs.size,_,I2,rfl,⟨s.heap.objs.size,x,rfl,I.hok.fresh (Nat.le_refl _),rfl,fun zs hq' => by rw [I.tuple_inj hq' hq]; exact hx⟩,⟨⟨x',?_⟩,hs1.at fun o q => (sb.2 it (Ne.symm hei)).trans q⟩,fun c hc => by rw [upd_ne (lt1 hc)]; exact (hf c hc).1⟩
  exact hz2'
 done:=by
  intro X hP hw hK hc i pins s σ H E I hf st hg
  subst hP hw hK
  obtain ⟨xs,hq,hx⟩:=hg
  obtain ⟨its,rv,p,hz⟩:=I.tuple hq
  obtain ⟨⟨old,he⟩,h1⟩:=st
  have hl:=rv.length
  have hai : a ≠ it:=Nat.ne_of_lt l1
  have D:=drawsE (prog:=X.prog) (w:=X.w) (A:=X.A.in1) (I.ok.hd hc) it a hai its.toArray i (by simp; omega)
  exact wpAny_pyNext_enum_endD D he ⟨rfl,h1,p⟩ fun h' eb => ⟨rfl,turnedL (ch:=[e,it]) (t':=s.toks) I (fun b o nb q => eb b o (fun z => nb (by simp [z])) q) hf⟩
 self:=fun _ _ _ _ _ st h => wpAny_pyIter_enum st.1.choose_spec h
section
variable {X : Cx} {elts : List Expr} {x1 : Nat} {tpos pos p : Pos} {e : Expr}
def iEnumT (K : PySem.W.Frag) (te : TE) : TI:=fun σ H R => te σ H fun x H1 => ∃ a,x = .ref a /\ (∃ xs,SqT K H1 a xs) /\ R (IteT K a) H1
theorem pi_enumT {te : TE} (hg : Gl X "enumerate") (hm : X.mg "enumerate" = none) (he : PE X e te)
  (hs : starEach [e] X.env = (false,eval e X.env) :: starEach [] X.env:=by rfl) (hpl : (backTo pos (starEach [] X.env)).any (·.1) = false:=by rfl) :
  PI X (.Tuple elts x1 tpos) (.Call (.Name "enumerate" p) [e] [] pos) (iEnumT X.K te):=by
 intro pins s σ H R I h
 refine wpAny_Call_Name_kw (ld_blt I hg hm bt_enumerate ?_ (by decide) (by decide))
 refine PyProof.Rows.callWith_type1 ?_ hs hpl
 rw [hs]
 show wpAny _ _ (spliced ((false,eval e X.env) :: backTo pos (starEach [] X.env))) _ _ s
 refine Calls.spliced_cons (thn (he pins s σ H _ I h) fun u s2 ⟨x,H2,I2,r1,a,ea,⟨xs,hl⟩,q⟩ => ?_)
 subst ea
 cases r1
 refine Calls.spliced_nil ?_
 obtain ⟨its,rv,ho,_⟩:=I2.tuple hl
 have la : a < s2.heap.objs.size:=let ⟨o,e,_⟩:=ho; Heap.lt_size e
 refine call_enumerate_tup ho fun h' hE hL l1 kp => wpAny_pyIter_enum hE ?_
 refine ⟨s2.heap.objs.size + 1,[s2.heap.objs.size + 1,s2.heap.objs.size],_,_,H2,rfl,I2.kept (t':=s2.toks) kp,turn_enumT a s2.heap.objs.size (s2.heap.objs.size + 1) la (Nat.lt_succ_self _),⟨⟨.none,hE⟩,hL⟩,fun c hc => ?_,q⟩
 have hc' : s2.heap.objs.size <= c:=by
  simp only [List.mem_cons,List.not_mem_nil,or_false] at hc
  rcases hc with z | z <;> subst z
  ·
   exact Nat.le_succ _
  ·
   exact Nat.le_refl _
 exact I2.fpOk hc' (I2.hok.fresh hc')
def enTq (x : T) (H : Hp3) (R : List T -> (Hp3 -> Prop) -> Hp3 -> Prop) : Prop:=match x with
 | .tup ts => R (enum0 0 ts) still0 H
 | _ => False
def iEnumT3 (te : TE3) : TI3:=fun σ H R => te σ H fun x H1 => enTq x H1 R
theorem q_iEnumT (te : TE3) {σ : St3} {H : Hp3} {R : List T -> (Hp3 -> Prop) -> Hp3 -> Prop} : iEnumT3 te σ H R = te σ H fun x H1 => enTq x H1 R:=rfl
theorem q_enTq (ts : List T) {H : Hp3} {R : List T -> (Hp3 -> Prop) -> Hp3 -> Prop} : enTq (.tup ts) H R = R (enum0 0 ts) still0 H:=rfl
theorem walk_enumT {K : PySem.W.Frag} {H : Hp} {a : Addr} {ts : List T} {xs : List V} (sq : SqT K H a xs) (rs : Reps K H ts xs) : Walk3 K (IteT K a) (enum0 0 ts) still0 H:=fun H' H3' le sh st => by
 have hl:=rs.length
 have sq':=le _ _ sq
 refine ⟨fun i hi => ⟨xs,sq',by rw [enum0_len] at hi; omega⟩,fun i t e => ?_⟩
 rw [enum0_get] at e
 cases q : ts[i]? with
 | none => rw [q] at e; cases e
 | some x =>
  rw [q] at e
  cases e
  obtain ⟨v,ev,rv⟩:=rs.get q
  refine ⟨⟨xs,v,sq',ev⟩,fun z H'' y => ?_⟩
  obtain ⟨p,x',rfl,hp,rfl,q1⟩:=y
  have:=(q1 xs sq').symm.trans ev
  cases this
  refine ⟨upd_tupLe hp,sh.new hp,?_⟩
  rw [show (0 : Int) + (i : Int) = (i : Int) from by omega]
  exact SimH.newTup (H3:=H3') hp (.cons .ofInt (.cons (rv.mono le) .nil))
theorem i3_enumT {te : TE3} (hg : Gl X "enumerate") (hm : X.mg "enumerate" = none) (he : PE3 X e te) (hs : starEach [e] X.env = (false,eval e X.env) :: starEach [] X.env:=by rfl) (hpl : (backTo pos (starEach [] X.env)).any (·.1) = false:=by rfl) :
  PI3 X (.Tuple elts x1 tpos) (.Call (.Name "enumerate" p) [e] [] pos) (iEnumT3 te):=by
 refine PI.imp (pi_enumT hg hm he hs hpl) ?_
 rintro σ H R ⟨σ3,H3,R3,ss,sh,h,k⟩
 refine ⟨σ3,H3,_,ss,sh,h,fun v H' t H3' le sh' r q => ?_⟩
 cases t with
 | tup ts =>
  obtain ⟨a,xs,rfl,sq,rs⟩:=r.tup
  exact ⟨a,rfl,⟨xs,sq⟩,k _ _ still0 H' H3' le sh' (walk_enumT sq rs) q⟩
 | _ => exact q.elim
end
section
variable {X : Cx}
def anH (o : Option O3) (H : Hp3) (Q : VK3) : Prop:=match o with
 | some (.lst xs) => oq (bools3 xs) fun bs => Q (.bl (bs.any id)) H
 | some (.rol xs) => oq (bools3 xs) fun bs => Q (.bl (bs.any id)) H
 | _ => False
def r3Any : List T -> Hp3 -> VK3 -> Prop:=fun ts H Q => match ts with
 | [.ref a] => anH (H a) H Q
 | _ => False
theorem q_any (a : Addr) {H : Hp3} {Q : VK3} : r3Any [.ref a] H Q = anH (H a) H Q:=rfl
theorem q_anH (xs : List T) {H : Hp3} {Q : VK3} : anH (some (.lst xs)) H Q = oq (bools3 xs) fun bs => Q (.bl (bs.any id)) H:=rfl
def r3Max2 : List T -> Hp3 -> VK3 -> Prop:=fun ts H Q => match ts with
 | [.int i,.int j] => Q (.int (if j > i then j else i)) H
 | _ => False
def r3Min2 : List T -> Hp3 -> VK3 -> Prop:=fun ts H Q => match ts with
 | [.int i,.int j] => Q (.int (if j < i then j else i)) H
 | _ => False
theorem q_max2 (i j : Int) {H : Hp3} {Q : VK3} : r3Max2 [.int i,.int j] H Q = Q (.int (if j > i then j else i)) H:=rfl
theorem q_min2 (i j : Int) {H : Hp3} {Q : VK3} : r3Min2 [.int i,.int j] H Q = Q (.int (if j < i then j else i)) H:=rfl
theorem c3_max2 (hc : X.calm = true) : CallR3 X (.builtin "max") r3Max2:=by
 intro pins s σ H xs us Q I rv h
 obtain ⟨ts,H3,Q3,r,sh,h,k⟩:=h
 match ts,h,r with
 | [.int i,.int j],h,r =>
  obtain ⟨v,v2,rfl,r1,r2⟩:=r.two'
  obtain ⟨u1,u2,rfl,q1,q2⟩:=vals2 rv
  rw [r1.int] at q1
  rw [r2.int] at q2
  obtain ⟨t1,rfl⟩:=q1
  obtain ⟨t2,rfl⟩:=q2
  refine max_two_ints (I.ok.hd hc) fun h' tk hk => ?_
  refine ⟨.int (if j > i then j else i),H,I.kept hk,?_,k _ _ _ _ .refl sh .ofInt h⟩
  by_cases z : j > i
  ·
   rw [if_pos z,if_pos z]; exact ⟨_,rfl⟩
  ·
   rw [if_neg z,if_neg z]; exact ⟨_,rfl⟩
theorem o3_and : OpR3 X (binaryOp .BitAnd) (rI03 fun i j => .int (Builtin.bitAnd i j)):=o3_I0 op_and fun _ _ _ => .ofInt
theorem bt_max : bootBuiltins "max" = some (.builtin "max"):=by decide +kernel
end
end L3
namespace L3
open PySem PySem.Spec PyProof.Rows L2
section
variable {X : Cx} {e st : Expr} {p2 pos : Pos}
def tRevS (K : PySem.W.Frag) (te : TE) (ts : TO) : TE:=fun σ H Q => te σ H fun x H1 => ts σ H1 fun o H2 => o = some (-1) /\ ∃ a xs,x = .ref a /\ SqL K H2 a xs /\ ∀ p,H2 p = none -> Q (.ref p) (upd H2 p (.lst xs.reverse))
theorem pe_revS {te : TE} {ts : TO} (he : PE X e te) (hs : PO X (some st) ts) : PE X (.Subscript e (.Slice none none (some st) p2) pos) (tRevS X.K te ts):=by
 intro pins s σ H Q I h
 refine Subscript_ (thn (he pins s σ H _ I h) fun v s1 ⟨x,H1,I1,r1,q1⟩ => ?_)
 refine wpAny_Slice ?_
 rw [evalPart_none]
 refine wpAny_pure (wpAny_pure (thn (hs pins s1 σ H1 _ I1 q1) fun vs s3 ⟨o,H3,I3,ps,eo,a,xs,ex,hx,q⟩ => ?_))
 subst eo ex
 cases r1
 have I4 : Inv X pins σ H3 { s3 with heap:=s3.heap.push { cls:=.type "slice",data:=.fields #[.none,.none,vs] } }:=I3.kept (t':=s3.toks) fun b ob q => Heap.get?_push_of_some _ q
 obtain ⟨its,r,ht,hz⟩:=I4.list hx
 have hlen:=r.length
 show wpAny (model X.prog X.w) X.A (subscriptTail e (.Slice none none (some st) p2) (.ref a) (.ref s3.heap.objs.size)) (EP X pins σ Q) X.xe { s3 with heap:=s3.heap.push { cls:=.type "slice",data:=.fields #[.none,.none,vs] } }
 refine tail_any (T:="list") (ops:=[.ref a,.ref s3.heap.objs.size]) ht.isList.typeIs slot_list_getitem.lookup ?_ (by with_unfolding_all rfl)
 refine wpAny_getItem_list_slice ht.isList (Heap.IsSliceOf.new ..) .none .none ps (by simp) ?_ (by rw [List.size_toArray] <;> omega)
 rw [PySem.W.krv_pick]
 refine ⟨.ref (s3.heap.push { cls:=.type "slice",data:=.fields #[.none,.none,vs] }).objs.size,_,I4.laid (t':=s3.toks) (o:=.lst xs.reverse) (fun b ob q => Heap.get?_push_of_some _ q) (Nat.le_refl _) ?_,rfl,q _ (I4.hok.fresh (Nat.le_refl _))⟩
 refine ⟨by simpa using hz,its.reverse,0,r.reverse,?_⟩
 rw [show its.toArray.toList.reverse.toArray = its.reverse.toArray by simp]
 exact Heap.get?_push_size _ rfl
def rvH (o : Option O3) (H : Hp3) (Q : VK3) : Prop:=match o with
 | some (.lst ts) => ∀ p,H p = none -> Q (.ref p) (up3 H p (.lst ts.reverse))
 | _ => False
def rvq (x : T) (o : Option Int) (H : Hp3) (Q : VK3) : Prop:=match x with
 | .ref a => o = some (-1) /\ rvH (H a) H Q
 | _ => False
def tRevS3 (te : TE3) (ts : TO3) : TE3:=fun σ H Q => te σ H fun x H1 => ts σ H1 fun o H2 => rvq x o H2 Q
theorem q_revS (te : TE3) (ts : TO3) {σ : St3} {H : Hp3} {Q : VK3} : tRevS3 te ts σ H Q = te σ H fun x H1 => ts σ H1 fun o H2 => rvq x o H2 Q:=rfl
theorem q_rvq (a : Addr) (o : Option Int) {H : Hp3} {Q : VK3} : rvq (.ref a) o H Q = (o = some (-1) /\ rvH (H a) H Q):=rfl
theorem q_rvH (ts : List T) {H : Hp3} {Q : VK3} : rvH (some (.lst ts)) H Q = ∀ p,H p = none -> Q (.ref p) (up3 H p (.lst ts.reverse)):=rfl
theorem e3_revS {te : TE3} {ts : TO3} (he : PE3 X e te) (hs : PO3 X (some st) ts) : PE3 X (.Subscript e (.Slice none none (some st) p2) pos) (tRevS3 te ts):=by
 refine PE.imp (pe_revS he hs) ?_
 rintro σ H Q ⟨σ3,H3,Q3,ss,sh,h,k⟩
 refine ⟨σ3,H3,_,ss,sh,h,fun x H1 tx H31 le1 sh1 rx q1 => ⟨σ3,H31,_,ss.mono le1,sh1,q1,fun o H2 H32 le2 sh2 q2 => ?_⟩⟩
 cases tx with
 | ref a =>
  obtain ⟨eo,q2⟩:=q2
  cases e : H32 a with
  | none => rw [e] at q2; exact q2.elim
  | some ob =>
   rw [e] at q2
   cases ob with
   | lst ts =>
    obtain ⟨xs,sq,r⟩:=sh2.sqL (.inl e)
    refine ⟨eo,a,xs,rx.ref,sq,fun p hp => k _ _ _ _ (le1.trans (le2.trans (upd_tupLe hp))) (sh2.newLst hp r.reverse) .ofRef (q2 p (sh2.fresh hp))⟩
   | rol ts => exact q2.elim
   | dct ts => exact q2.elim
   | dcp ts => exact q2.elim
 | _ => exact q2.elim
end
end L3
set_option maxHeartbeats 1000000
namespace L3
open PySem PySem.Spec PyProof.Rows L2
section
variable {H : Hp3} {Q : VK3} {σ : St3}
end
section
variable {X : Cx} {o i k value : Expr} {es : List Expr} {td ti tk tv : TE3} {ta : TA3} {pos pos' p2 : Pos} {x1 : Nat}
def tDNew3 : TE3:=fun _ H Q => ∀ p,H p = none -> Q (.ref p) (up3 H p (.dct []))
theorem SimH.newD {K : PySem.W.Frag} {H : Hp} {H3 : Hp3} {p : Addr} (s : SimH K H3 H) (hp : H p = none) : SimH K (up3 H3 p (.dct [])) (upd H p (.dK [])):=fun a o e => by
 by_cases ha : a = p
 ·
  subst ha
  rw [up3_same] at e; cases e
  exact ⟨[],upd_same,.nil⟩
 ·
  rw [up3_ne ha] at e
  exact s.new hp a o e
theorem e3_dnew : PE3 X (.Dict [] [] pos) tDNew3:=by
 refine PE.imp pe_dnewK ?_
 rintro σ H Q ⟨σ3,H3,Q3,ss,sh,h,k⟩ p hp
 exact k _ _ _ _ (upd_tupLe hp) (sh.newD hp) .ofRef (h p (sh.fresh hp))
def diH (neg : Bool) (y : T) (o : Option O3) (H : Hp3) (Q : VK3) : Prop:=match y,o with
 | .str k,some (.dct kvs) => Q (.bl (if neg then !(look3 k kvs).isSome else (look3 k kvs).isSome)) H
 | _,_ => False
def diq (neg : Bool) (y x : T) (H : Hp3) (Q : VK3) : Prop:=match x with
 | .ref a => diH neg y (H a) H Q
 | _ => False
def tDIn3 (neg : Bool) (ti to : TE3) : TE3:=fun σ H Q => ti σ H fun y H1 => to σ H1 fun x H2 => diq neg y x H2 Q
theorem q_diq (neg : Bool) (y : T) (a : Addr) {H : Hp3} {Q : VK3} : diq neg y (.ref a) H Q = diH neg y (H a) H Q:=rfl
theorem q_diH (neg : Bool) (k : Str) (kvs : List (Str × T)) {H : Hp3} {Q : VK3} : diH neg (.str k) (some (.dct kvs)) H Q = Q (.bl (if neg then !(look3 k kvs).isSome else (look3 k kvs).isSome)) H:=rfl
theorem look_rep0 {K : PySem.W.Frag} {H : Hp} {k : Str} : ∀ {kvs : List (Str × T)} {vs : List (Key × V)},RepD K H kvs vs -> (valV vs (Sum.inr k : Key)).isSome = (look3 k kvs).isSome
 | [],_,.nil => rfl
 | (k',t') :: r,_,.cons (b:=(kk,v')) ⟨e1,rv⟩ rr => by
  simp only at e1 rv
  subst e1
  unfold look3
  by_cases hk : k' = k
  ·
   rw [if_pos hk,valV_pos (by rw [hk])]; rfl
  ·
   rw [if_neg hk,valV_neg (by intro z; exact hk (Sum.inr.inj z))]
   exact look_rep0 rr
theorem din_aux {neg : Bool} {H : Hp} {H3 : Hp3} {x y : V} {tx ty : T} {Q3 : VK3} (sh : SimH X.K H3 H) (rx : Rep X.K H tx x) (ry : Rep X.K H ty y) (q : diq neg ty tx H3 Q3) :
  ∃ a ov b,x = .ref a /\ DGet H a y ov /\ (if neg then !ov.isSome else ov.isSome) = b /\ Q3 (.bl b) H3:=by
 cases tx with
 | ref a =>
  have h' : diH neg ty (H3 a) H3 Q3:=q
  cases ty with
  | str k =>
   cases e : H3 a with
   | none => rw [e] at h'; exact h'.elim
   | some ob =>
    rw [e] at h'
    cases ob with
    | dct kvs =>
     obtain ⟨ws,hH,r⟩:=sh a _ e
     refine ⟨a,valV ws (Sum.inr k : Key),_,rx.ref,by rw [ry.str]; exact DGet.k (k:=Sum.inr k) hH,rfl,?_⟩
     rw [look_rep0 r]
     exact h'
    | _ => exact h'.elim
  | _ => exact h'.elim
 | _ => exact q.elim
theorem t3_din (hu : X.A.units + 1 < cLine) (hi : PE3 X i ti) (ho : PE3 X o td) (hm : behindInMarks .In o = false:=by rfl) : PT3 X (.Compare i [.In] [o] pos) (tTest3 (tDIn3 false ti td)):=by
 refine PT.imp (pt_cmp (pc_din hu hi ho) hm) ?_
 rintro σ H Q ⟨σ3,H3,Q3,ss,sh,h,k⟩
 refine ⟨σ3,H3,_,ss,sh,h,fun y H1 ty H31 le1 sh1 ry q1 => ⟨σ3,H31,_,ss.mono le1,sh1,q1,fun x H2 tx H32 le2 sh2 rx q2 => ?_⟩⟩
 obtain ⟨a,ov,b,e,g,eb,q⟩:=din_aux sh2 rx (ry.mono le2) q2
 exact ⟨a,ov,e,g,b,by rw [show ov.isSome = b from eb],k _ _ _ (le1.trans le2) sh2 q⟩
theorem t3_dnotin (hu : X.A.units + 1 < cLine) (hi : PE3 X i ti) (ho : PE3 X o td) (hm : behindInMarks .NotIn o = false:=by rfl) : PT3 X (.Compare i [.NotIn] [o] pos) (tTest3 (tDIn3 true ti td)):=by
 refine PT.imp (pt_cmp (pc_dnotin hu hi ho) hm) ?_
 rintro σ H Q ⟨σ3,H3,Q3,ss,sh,h,k⟩
 refine ⟨σ3,H3,_,ss,sh,h,fun y H1 ty H31 le1 sh1 ry q1 => ⟨σ3,H31,_,ss.mono le1,sh1,q1,fun x H2 tx H32 le2 sh2 rx q2 => ?_⟩⟩
 obtain ⟨a,ov,b,e,g,eb,q⟩:=din_aux sh2 rx (ry.mono le2) q2
 exact ⟨a,ov,e,g,b,by rw [show (!ov.isSome) = b from eb],k _ _ _ (le1.trans le2) sh2 q⟩
end
theorem iter_pre {α : Type} (enc : α -> T) (xs : List α) {g : TG3} {tb : TS3} {D : Ends3} {still : Hp3 -> Prop} {σ : St3} {H : Hp3} (I : List α -> St3 -> Hp3 -> Prop) (h0 : I [] σ H) (hn : ∀ σ H,I xs σ H -> still H /\ D.nx σ H)
  (hs : ∀ A x B σ H (N : St3 -> Hp3 -> Prop),xs = A ++ x :: B -> I A σ H -> (∀ σ' H',I (A ++ [x]) σ' H' -> N σ' H') -> still H /\ g (enc x) σ H fun σ2 H2 => tb { D with nx:=N,ct:=N,bk:=D.nx } σ2 H2) : iter3 g tb D still (xs.map enc) σ H:=by
 have : ∀ (B A : List α) (σ : St3) (H : Hp3),xs = A ++ B -> I A σ H -> iter3 g tb D still (B.map enc) σ H:=by
  intro B
  induction B with
  | nil => intro A σ H e h; rw [List.append_nil] at e; subst e; exact hn σ H h
  | cons x B ih =>
   intro A σ H e h
   exact hs A x B σ H (iter3 g tb D still (B.map enc)) e h fun σ' H' h' => ih (A ++ [x]) σ' H' (by rw [e]; simp) h'
 exact this xs [] σ H rfl h0
theorem cIter_pre {α : Type} (enc : α -> T) (xs : List α) {g : TG3} {tt : TT3} {te : TE3} {still : Hp3 -> Prop} {fin : List T -> Hp3 -> Prop} {σ : St3} {H : Hp3} (I : List α -> List T -> St3 -> Hp3 -> Prop) (h0 : I [] [] σ H) (hn : ∀ ys σ H,I xs ys σ H -> still H /\ ys.length <= sizeLine /\ fin ys H)
  (hs : ∀ A x B ys σ H (N : List T -> St3 -> Hp3 -> Prop),xs = A ++ x :: B -> I A ys σ H -> (∀ ys' σ' H',I (A ++ [x]) ys' σ' H' -> N ys' σ' H') ->
   still H /\ g (enc x) σ H fun σ2 H2 => tt σ2 H2 fun b H3 => if b = true then te σ2 H3 fun y H4 => ys.length < sizeLine /\ N (ys ++ [y]) σ2 H4 else N ys σ2 H3) : cIter3 g tt te still fin (xs.map enc) [] σ H:=by
 have : ∀ (B A : List α) (ys : List T) (σ : St3) (H : Hp3),xs = A ++ B -> I A ys σ H -> cIter3 g tt te still fin (B.map enc) ys σ H:=by
  intro B
  induction B with
  | nil => intro A ys σ H e h; rw [List.append_nil] at e; subst e; exact hn ys σ H h
  | cons x B ih =>
   intro A ys σ H e h
   exact hs A x B ys σ H (cIter3 g tt te still fin (B.map enc)) e h fun ys' σ' H' h' => ih (A ++ [x]) ys' σ' H' (by rw [e]; simp) h'
 exact this xs [] [] σ H rfl h0
end L3
set_option maxHeartbeats 4000000
namespace L3
open PySem PySem.Spec PyProof.Rows L2
section
variable {X : Cx}
def ppH (o : Option O3) (a : Addr) (H : Hp3) (Q : VK3) : Prop:=match o with
 | some (.lst xs) => oq (xs[xs.length - 1]?) fun t => Q t (up3 H a (.lst xs.dropLast))
 | _ => False
def r3Pop0 : T -> List T -> Hp3 -> VK3 -> Prop:=fun x ts H Q => match x,ts with
 | .ref a,[] => ppH (H a) a H Q
 | _,_ => False
theorem q_pop0 (a : Addr) (H : Hp3) (Q : VK3) : r3Pop0 (.ref a) [] H Q = ppH (H a) a H Q:=rfl
theorem q_ppH (xs : List T) (a : Addr) (H : Hp3) (Q : VK3) : ppH (some (.lst xs)) a H Q = oq (xs[xs.length - 1]?) fun t => Q t (up3 H a (.lst xs.dropLast)):=rfl
theorem Reps.dropLast {K : PySem.W.Frag} {H : Hp} {ts : List T} {vs : List V} (r : Reps K H ts vs) : Reps K H ts.dropLast vs.dropLast:=by
 rw [List.dropLast_eq_take,List.dropLast_eq_take,r.length]
 exact r.take _
theorem m3_pop : MtR3 X "list.pop" r3Pop0:=by
 refine MtR.imp mt_pop ?_
 rintro x xs H Q ⟨tx,ts,H3,Q3,rx,rs,sh,h,k⟩
 cases tx with
 | ref a =>
  cases ts with
  | cons _ _ => exact h.elim
  | nil =>
   rw [q_pop0] at h
   cases e : H3 a with
   | none => rw [e] at h; exact h.elim
   | some o =>
    rw [e] at h
    cases o with
    | lst ls =>
     rw [q_ppH] at h
     obtain ⟨ys,hH,r⟩:=sh a _ e
     cases e2 : ls[ls.length - 1]? with
     | none => rw [e2] at h; exact h.elim
     | some t =>
      rw [e2,q_oq] at h
      obtain ⟨v,hv,rv⟩:=r.get e2
      refine ⟨a,ys,v,rx.ref,rs.inv0,hH,by rw [<- r.length]; exact hv,k _ _ _ _ (wr_tupLe (by rw [hH]; exact trivial)) (sh.wrL hH r.dropLast) (rv.mono (wr_tupLe (by rw [hH]; exact trivial))) h⟩
    | _ => exact h.elim
 | _ => exact h.elim
end
end L3
namespace L3
open PySem PySem.Spec PyProof.Rows L2
section
variable {X : Cx}
def eqR (a b : Addr) (o u : Option O3) (H : Hp3) (Q : VK3) : Prop:=match o,u with
 | some (.rol xs),some (.lst ys) => a ≠ b /\ xs.all (pl 20) = true /\ ys.all (pl 20) = true /\ Q (.bl (decide (xs = ys))) H
 | _,_ => False
def r3EqR : R3:=fun x y H Q => match x,y with
 | .ref a,.ref b => eqR a b (H a) (H b) H Q
 | _,_ => False
theorem q_eqR (a b : Addr) (H : Hp3) (Q : VK3) : r3EqR (.ref a) (.ref b) H Q = eqR a b (H a) (H b) H Q:=rfl
theorem q_eqRH (a b : Addr) (xs ys : List T) (H : Hp3) (Q : VK3) : eqR a b (some (.rol xs)) (some (.lst ys)) H Q = (a ≠ b /\ xs.all (pl 20) = true /\ ys.all (pl 20) = true /\ Q (.bl (decide (xs = ys))) H):=rfl
theorem o3_eqR (hu : X.A.units + 30 < cLine) : OpR3 X (compareOp .Eq) r3EqR:=by
 intro pins s σ H x y v u Q I rv ru h
 obtain ⟨tx,ty,H3,Q3,rx,ry,sh,h,k⟩:=h
 cases tx with
 | ref a =>
  cases ty with
  | ref b =>
   rw [q_eqR] at h
   cases e1 : H3 a with
   | none => rw [e1] at h; exact h.elim
   | some o =>
    cases e2 : H3 b with
    | none => rw [e1,e2] at h; cases o <;> exact h.elim
    | some o2 =>
     rw [e1,e2] at h
     cases o with
     | rol ts =>
      cases o2 with
      | lst us =>
       rw [q_eqRH] at h
       obtain ⟨xs,g1,r⟩:=sh.sqL (.inr e1)
       obtain ⟨ys,g2,r'⟩:=sh b _ e2
       cases rx.ref; cases ry.ref; cases rv; cases ru
       obtain ⟨its,rv1,ht,_⟩:=I.list (X:=X) g1
       obtain ⟨its',rv2,ht',_⟩:=I.list (X:=X) (.of g2)
       have hl : its.length = ts.length:=by rw [<- rv1.length,<- r.length]
       have hl' : its'.length = us.length:=by rw [<- rv2.length,<- r'.length]
       by_cases hsz : ts.length = us.length
       ·
        refine SeqAt.eq_listAt (e:=fun j => decide (ts[j]? = us[j]?)) ht.isList ht'.isList (by simp; omega) (by omega) (items_eq I hu h.2.1 h.2.2.1 r r' rv1 rv2) ⟨.bl _,H,I,rfl,?_⟩
        have e:=rows_dec (ts:=ts) (us:=us)
        rw [<- hsz,Nat.min_self,beq_self_eq_true,Bool.and_true] at e
        rw [List.size_toArray,hl,e]
        exact k _ _ _ _ .refl sh .ofBl h.2.2.2
       ·
        refine SeqAt.eq_list_lengthsAt ht.isList ht'.isList (by simp; omega) (by omega) ⟨.bl false,H,I,rfl,?_⟩
        have e : decide (ts = us) = false:=decide_eq_false fun z => hsz (by rw [z])
        have q:=h.2.2.2
        rw [e] at q
        exact k _ _ _ _ .refl sh .ofBl q
      | _ => exact h.elim
     | _ => cases o2 <;> exact h.elim
  | _ => exact h.elim
 | _ => exact h.elim
end
end L3
namespace L3
open PySem PySem.Spec PyProof.Rows L2
theorem sc_mk {N P : List Str} {sc : Scope} (a : sc.kind = .function:=by rfl) (b : sc.isCoroutine = false:=by rfl) (c : sc.isGenerator = false:=by rfl) (d : N.Nodup:=by decide +kernel) (e : N.take P.length = P:=by rfl)
 (f : ∀ x ∈ P,sc.names.lookup x = some .local \/ sc.names.lookup x = some .cell:=by decide +kernel) (g : ∀ y ∈ sc.names,y.2 ≠ .free:=by decide +kernel) : FnScope N P sc:=⟨a,b,c,d,e,f,g⟩
structure Cal (P : Program) (w : World) (K : PySem.W.Frag) (mg : Str -> Option Value) (base : Heap) (k : Nat) (x : Str) (st : Stmt) (ps : List Str) (sp : Sp3) : Prop where
 ex : ∃ (f : Addr) (fd : FuncData),G3 K mg x st ps f fd /\ FnOk3 P w K mg base k f fd ps sp
theorem e3_cl0 {X : Cx} {k : Nat} {ps : List Str} {sp : Sp3} {st : Stmt} {x : Str} {p pos : Pos} {e : Expr} {es : List Expr} {t : TA3} (D : Cal X.prog X.w X.K X.mg X.base k x st ps sp) (hr : Room k X.A) (hg : Gl X x)
  (ha : PA3 X (e :: es) t) (hdb : (x == ("__debug__" : Str)) = false:=by decide) (he : starEach (e :: es) X.env = (false,eval e X.env) :: starEach es X.env:=by rfl) (hpl : (backTo pos (starEach es X.env)).any (·.1) = false:=by rfl) :
  PE3 X (.Call (.Name x p) (e :: es) [] pos) (tCall3 sp t):=by
 obtain ⟨f,fd,g,F⟩:=D.ex
 exact e3_call F hr hg g.m g.fn.kp g.b ha hdb he hpl
theorem e3_cl {X : Cx} {k j : Nat} {ps : List Str} {sp : Sp3} {st : Stmt} {x : Str} {p pos : Pos} {e : Expr} {es : List Expr} {t : TA3} (D : Cal X.prog X.w X.K X.mg X.base k x st ps sp) (hr : Room j X.A) (hg : Gl X x) (ha : PA3 X (e :: es) t) (hk : k <= j:=by decide) (hdb : (x == ("__debug__" : Str)) = false:=by decide) (he : starEach (e :: es) X.env = (false,eval e X.env) :: starEach es X.env:=by rfl) (hpl : (backTo pos (starEach es X.env)).any (·.1) = false:=by rfl) : PE3 X (.Call (.Name x p) (e :: es) [] pos) (tCall3 sp t):=e3_cl0 D (hr.mono hk) hg ha hdb he hpl
end L3
namespace M
open PySem PySem.Spec PyProof.Rows L2 L3
structure Box (p : Prop) : Prop where
 out : p
structure Cl (H : Hp3) (a : Addr) : Prop where
 ex : ∃ ns : List Int,H a = some (.lst (ns.map T.int)) /\ ns.length <= 504
structure Drw (a : Addr) (H H' : Hp3) : Prop where
 cl : Cl H' a
 off : ∀ b,b ≠ a -> H' b = H b
theorem Drw.trans {a : Addr} {H H1 H2 : Hp3} (x : Drw a H H1) (y : Drw a H1 H2) : Drw a H H2:=⟨y.cl,fun b h => (y.off b h).trans (x.off b h)⟩
theorem Cl.refl {a : Addr} {H : Hp3} (D : Cl H a) : Drw a H H:=⟨D,fun _ _ => rfl⟩
theorem Cl.ne {a p : Addr} {H : Hp3} (D : Cl H a) (hp : H p = none) : p ≠ a:=fun e => by obtain ⟨ns,h,_⟩:=D.ex; rw [<- e,hp] at h; cases h
theorem Cl.new {a p : Addr} {H : Hp3} {u : O3} (D : Cl H a) (h : p ≠ a) : Cl (up3 H p u) a:=by
 obtain ⟨ns,e,r⟩:=D.ex
 exact ⟨ns,by rw [up3_ne (Ne.symm h)]; exact e,r⟩
def Kep (a : Addr) (H H' : Hp3) : Prop:=∀ b o,H b = some o -> b ≠ a -> H' b = some o
theorem Kep.refl {a : Addr} {H : Hp3} : Kep a H H:=fun _ _ h _ => h
theorem Kep.drw {a : Addr} {H H1 H2 : Hp3} (x : Kep a H H1) (y : Drw a H1 H2) : Kep a H H2:=fun b o h h1 => by rw [y.off b h1]; exact x b o h h1
theorem Kep.new {a p : Addr} {H H1 : Hp3} {u : O3} (x : Kep a H H1) (hp : H1 p = none) : Kep a H (up3 H1 p u):=fun b o h h1 => by
 have:=x b o h h1
 rw [up3_ne (ne3n this hp)]; exact this
theorem Kep.at {a p : Addr} {H H1 : Hp3} {u : O3} (x : Kep a H H1) (hp : H p = none) : Kep a H (up3 H1 p u):=fun b o h h1 => by
 rw [up3_ne (ne3n h hp)]; exact x b o h h1
theorem Kep.sub {a : Addr} {H H1 H2 : Hp3} (x : Kep a H H1) (s : Sub3 H1 H2) : Kep a H H2:=fun b o h h1 => s b o (x b o h h1)
theorem fin_drw {a : Addr} {H H' : Hp3} {Q : VK3} {v : T} (D : Cl H' a) (k : Kep a H H') (q : ∀ H'',Drw a H H'' -> Q v H'') : Fin3 Q v H':=by
 refine ⟨fun b => if b = a then H' b else H b,fun b o hb => ?_,q _ ⟨?_,fun b h1 => ?_⟩⟩
 ·
  by_cases h : b = a
  ·
   simp only [h,if_true] at hb ⊢; exact hb
  ·
   simp only [h,if_false] at hb
   exact k b o hb h
 ·
  obtain ⟨ns,e,r⟩:=D.ex
  exact ⟨ns,by simp only [if_true]; exact e,r⟩
 ·
  simp only [h1,if_false]
structure Wt (c : Addr) (H0 H : Hp3) (fs : List (Addr × O3)) : Prop where
 cl : Cl H c
 kp : Kep c H0 H
 at' : ∀ p ∈ fs,H p.1 = some p.2 /\ p.1 ≠ c
theorem Wt.drw {c : Addr} {H0 H H' : Hp3} {fs : List (Addr × O3)} (w : Wt c H0 H fs) (d : Drw c H H') : Wt c H0 H' fs:=⟨d.cl,w.kp.drw d,fun p hp => ⟨by rw [d.off _ (w.at' p hp).2]; exact (w.at' p hp).1,(w.at' p hp).2⟩⟩
theorem Wt.new {c p : Addr} {H0 H : Hp3} {fs : List (Addr × O3)} {o : O3} (w : Wt c H0 H fs) (hp : H p = none) : Wt c H0 (up3 H p o) ((p,o) :: fs):=⟨w.cl.new (w.cl.ne hp),w.kp.new hp,fun q hq => by
 rcases List.mem_cons.mp hq with rfl | hq
 ·
  exact ⟨up3_same,w.cl.ne hp⟩
 ·
  exact ⟨by rw [up3_ne (ne3n (w.at' q hq).1 hp)]; exact (w.at' q hq).1,(w.at' q hq).2⟩⟩
theorem Wt.hd {c p : Addr} {H0 H : Hp3} {o : O3} {fs : List (Addr × O3)} (w : Wt c H0 H ((p,o) :: fs)) : H p = some o:=(w.at' (p,o) List.mem_cons_self).1
theorem Wt.tl {c : Addr} {q : Addr × O3} {H0 H : Hp3} {fs : List (Addr × O3)} (w : Wt c H0 H (q :: fs)) : Wt c H0 H fs:=⟨w.cl,w.kp,fun p hp => w.at' p (List.mem_cons_of_mem _ hp)⟩
theorem Wt.set {c p : Addr} {H0 H : Hp3} {o : O3} {fs : List (Addr × O3)} (w : Wt c H0 H ((p,o) :: fs)) (hp0 : H0 p = none) (hd : ∀ q ∈ fs,q.1 ≠ p) (o' : O3) : Wt c H0 (up3 H p o') ((p,o') :: fs) :=
 have hc:=(w.at' (p,o) List.mem_cons_self).2
 ⟨w.cl.new hc,w.kp.at hp0,fun q hq => by
  rcases List.mem_cons.mp hq with rfl | hq
  ·
   exact ⟨up3_same,hc⟩
  ·
   exact ⟨by rw [up3_ne (hd q hq)]; exact (w.at' q (List.mem_cons_of_mem _ hq)).1,(w.at' q (List.mem_cons_of_mem _ hq)).2⟩⟩
theorem Wt.fresh {c p : Addr} {H0 H : Hp3} {fs : List (Addr × O3)} (w : Wt c H0 H fs) (hp : H p = none) : H0 p = none:=by
 cases e : H0 p with
 | none => rfl
 | some o => rw [w.kp p o e (w.cl.ne hp)] at hp; cases hp
end M
namespace M
open PySem PySem.Spec PyProof.Rows L2 L3
def spNum : Sp3:=fun ts H Q => ∃ (a : Addr) (ns : List Int),ts = [.ref a] /\ H a = some (.rol (ns.map T.int)) /\ ns.length <= 63 /\ ∀ (p : Addr) (H' : Hp3),Sub3 H H' -> H p = none -> Cl H' p -> Q (.ref p) H'
def spDr : Sp3:=fun ts H Q => ∃ (d : Addr) (m : Int),ts = [.ref d,.int m] /\ 0 < m /\ Cl H d /\ ∀ (n : Int) (H' : Hp3),0 <= n -> n < m -> Drw d H H' -> Q (.int n) H'
def spGr : Sp3:=fun ts H Q => ∃ (d : Addr) (m : Int),ts = [.ref d,.int m] /\ 0 < m /\ Cl H d /\ ∀ (n : Int) (H' : Hp3),0 <= n -> n < m -> Drw d H H' -> Q (.int n) H'
theorem fin_drw2 {d p : Addr} {H H' : Hp3} {Q : VK3} {o : O3} (D : Cl H' d) (k : Kep d H H') (hp : H' p = some o) (h0 : H p = none) (hd : p ≠ d) (q : ∀ H1,Drw d H H1 -> H1 p = none -> Q (.ref p) (up3 H1 p o)) : Fin3 Q (.ref p) H':=by
 refine ⟨up3 (fun b => if b = d then H' b else H b) p o,fun b u hb => ?_,q _ ⟨?_,fun b h1 => ?_⟩ ?_⟩
 ·
  by_cases e : b = p
  ·
   subst e; rw [up3_same] at hb; rw [hp]; exact hb
  ·
   rw [up3_ne e] at hb
   by_cases h : b = d
   ·
    simp only [h,if_true] at hb ⊢; exact hb
   ·
    simp only [h,if_false] at hb
    exact k b u hb h
 ·
  obtain ⟨ns,e,r⟩:=D.ex
  exact ⟨ns,by simp only [if_true]; exact e,r⟩
 ·
  simp only [h1,if_false]
 ·
  simp only [hd,if_false]; exact h0
theorem Wt.swap {c p q : Addr} {H0 H : Hp3} {o u : O3} (w : Wt c H0 H [(p,o),(q,u)]) : Wt c H0 H [(q,u),(p,o)]:=⟨w.cl,w.kp,fun x hx => w.at' x (by
 rcases List.mem_cons.mp hx with rfl | hx
 ·
  simp
 ·
  rw [List.mem_singleton.mp hx]; simp)⟩
def spTu : Sp3:=fun ts H Q => ∃ (d a : Addr) (xs : List T),ts = [.ref d,.ref a] /\ a ≠ d /\ H a = some (.lst xs) /\ xs.all (pl 20) = true /\ xs.length <= 60 /\ Cl H d /\ ∀ (ys : List T) (H1 : Hp3) (p : Addr),ys.Perm xs -> Drw d H H1 -> H1 p = none -> Q (.ref p) (up3 H1 p (.lst ys))
theorem er_perm {α : Type} {xs : List α} {j : Nat} (h : j < xs.length) : (xs[j] :: xs.eraseIdx j).Perm xs:=by
 have e : xs = xs.take j ++ xs[j] :: xs.drop (j + 1):=by rw [<- List.drop_eq_getElem_cons h]; exact (List.take_append_drop j xs).symm
 rw [List.eraseIdx_eq_take_drop_succ]
 exact List.perm_middle.symm.trans (by rw [<- e])
theorem all_er {xs : List T} (h : xs.all (pl 20) = true) (j : Nat) : (xs.eraseIdx j).all (pl 20) = true:=by
 rw [List.all_eq_true] at h ⊢
 exact fun t ht => h t (List.mem_of_mem_eraseIdx ht)
theorem rng_0 (n : Nat) : rng3 0 n = (List.range n).map fun (i : Nat) => T.int (i : Int):=by
 unfold rng3
 exact List.map_congr_left fun i _ => by rw [Int.zero_add]
theorem sub_none {H H' : Hp3} {p : Addr} (s : Sub3 H H') (hp : H' p = none) : H p = none:=by
 cases e : H p with
 | none => rfl
 | some o => rw [s _ _ e] at hp; cases hp
theorem cells_ok (ns : List Int) (hl : ns.length <= 63) : ∃ cs : List Int,1 <= cs.length /\ cs.length <= 63 /\ cut3 (ns.map T.int) none (some 63) ++ (List.replicate (if decide (ns.map T.int = []) = true then (1 : Int) else 0).toNat [T.int 0]).flatten = cs.map T.int:=by
 have e : cut3 (ns.map T.int) none (some 63) = ns.map T.int:=by
  rw [show (63 : Int) = ((63 : Nat) : Int) from rfl,cut_to,List.take_of_length_le (by rw [List.length_map]; exact hl)]
 rw [e]
 cases ns with
 | nil => exact ⟨[0],by decide,by decide,rfl⟩
 | cons n r => exact ⟨n :: r,by simp,hl,by simp⟩
theorem all_int (ns : List Int) : (ns.map T.int).all (pl 20) = true:=by rw [List.all_eq_true]; intro t ht; obtain ⟨x,_,rfl⟩:=List.mem_map.mp ht; rfl
structure Nb (H0 H : Hp3) (pc pf : Addr) (cs fs : List Int) : Prop where
 sb : Sub3 H0 H
 c : H pc = some (.lst (cs.map T.int))
 f : H pf = some (.lst (fs.map T.int))
 f0 : H0 pf = none
 ne : pc ≠ pf
theorem Nb.new {H0 H : Hp3} {pc pf p : Addr} {cs fs : List Int} {o : O3} (x : Nb H0 H pc pf cs fs) (hp : H p = none) : Nb H0 (up3 H p o) pc pf cs fs :=
 ⟨x.sb.trans (Sub3.new hp),by rw [up3_ne (ne3n x.c hp)]; exact x.c,by rw [up3_ne (ne3n x.f hp)]; exact x.f,x.f0,x.ne⟩
theorem Nb.put {H0 H : Hp3} {pc pf : Addr} {cs fs : List Int} (x : Nb H0 H pc pf cs fs) (z : Int) : Nb H0 (up3 H pf (.lst (fs.map T.int ++ [T.int z]))) pc pf cs (fs ++ [z]) :=
 ⟨fun a u e => by rw [up3_ne (ne3n e x.f0)]; exact x.sb a u e,by rw [up3_ne x.ne]; exact x.c,by rw [up3_same,List.map_append]; rfl,x.f0,x.ne⟩
theorem pop_snoc (ns : List Int) (n : Int) : ((ns ++ [n]).map T.int)[((ns ++ [n]).map T.int).length - 1]? = some (T.int n):=by simp
theorem drop_snoc (ns : List Int) (n : Int) : ((ns ++ [n]).map T.int).dropLast = ns.map T.int:=by simp
def spLg : Sp3:=fun ts H Q => ∃ (d : Addr) (m : Nat),ts = [.ref d,.int (m : Int)] /\ m <= 8 /\ Cl H d /\ ∀ (ls : List Int) (H1 : Hp3) (p : Addr),ls.length = m -> (∀ l ∈ ls,1 <= l /\ l < 10 ^ 60) -> Drw d H H1 -> H1 p = none -> Q (.ref p) (up3 H1 p (.lst (ls.map T.int)))
theorem t60 : (10 : Int) ^ Int.toNat 60 = 1000000000000000000000000000000000000000000000000000000000000:=by decide
theorem t58 : (10 : Int) ^ Int.toNat 58 = 10000000000000000000000000000000000000000000000000000000000:=by decide
theorem t60' : (10 : Int) ^ 60 = 1000000000000000000000000000000000000000000000000000000000000:=by decide
theorem pig : ∀ (ws : List Str) (f : Nat -> Str),(∀ i j,i <= ws.length -> j <= ws.length -> f i = f j -> i = j) -> (∀ i,i <= ws.length -> f i ∈ ws) -> False
 | [],f,_,h => by have:=h 0 (Nat.le_refl _); simp at this
 | w :: ws,f,inj,h => by
  rw [List.length_cons] at inj h
  by_cases q : ∃ j,j <= ws.length + 1 /\ f j = w
  ·
   obtain ⟨j,hj,e⟩:=q
   refine pig ws (fun i => if i < j then f i else f (i + 1)) (fun a b ha hb hab => ?_) (fun i hi => ?_)
   ·
    try dsimp only at hab
    split at hab <;> split at hab
    ·
     exact inj a b (by omega) (by omega) hab
    ·
     have:=inj a (b + 1) (by omega) (by omega) hab; omega
    ·
     have:=inj (a + 1) b (by omega) (by omega) hab; omega
    ·
     have:=inj (a + 1) (b + 1) (by omega) (by omega) hab; omega
   ·
    show (if i < j then f i else f (i + 1)) ∈ ws
    split
    ·
     exact (List.mem_cons.mp (h i (by omega))).resolve_left fun e2 => by have:=inj i j (by omega) hj (e2.trans e.symm); omega
    ·
     exact (List.mem_cons.mp (h (i + 1) (by omega))).resolve_left fun e2 => by have:=inj (i + 1) j (by omega) hj (e2.trans e.symm); omega
  ·
   exact pig ws f (fun a b ha hb => inj a b (by omega) (by omega)) fun i hi => (List.mem_cons.mp (h i (by omega))).resolve_left fun e => q ⟨i,by omega,e⟩
noncomputable def dg : Nat -> Int -> List Nat
 | 0,_ => []
 | n + 1,l => (97 + (l % 26).toNat) :: dg n (l / 26)
theorem dg_len : ∀ (n : Nat) (l : Int),(dg n l).length = n
 | 0,_ => rfl
 | n + 1,l => by rw [dg,List.length_cons,dg_len n]
theorem dg_az : ∀ (n : Nat) (l : Int),∀ c ∈ dg n l,97 <= c /\ c <= 122
 | 0,_,_,h => nomatch h
 | n + 1,l,c,h => by
  rw [dg] at h
  have:=Int.emod_lt_of_pos l (show (0 : Int) < 26 by decide)
  rcases List.mem_cons.mp h with rfl | h
  ·
   omega
  ·
   exact dg_az n _ c h
theorem dg_inj {n : Nat} {num : Int} {i j : Nat} (hi : i <= 25) (hj : j <= 25) (h : mkS (dg (n + 1) (num + i)) = mkS (dg (n + 1) (num + j))) : i = j:=by
 have e:=mkS_inj h
 rw [dg,dg,List.cons.injEq] at e
 have e1:=e.1
 have a1:=Int.emod_nonneg (num + i) (show (26 : Int) ≠ 0 by decide)
 have a2:=Int.emod_nonneg (num + j) (show (26 : Int) ≠ 0 by decide)
 omega
def spFn : Sp3:=fun ts H Q => ∃ (sz : Nat) (num : Int) (a : Addr) (ws : List Str),ts = [.int (sz : Int),.int num,.ref a] /\ 1 <= sz /\ sz <= 8 /\ H a = some (.lst (ws.map T.str)) /\ ws.length <= 8 /\ ∀ x,isNm x -> x ∉ ws -> Q (.str x) H
noncomputable def nmK (l : List Nat) (a s i : Nat) : Str:=mkS (l.take a ++ [97 + (((s : Int) + (i : Int)) % 26).toNat] ++ l.drop (a + 1))
theorem nmK_nm {l : List Nat} {a s i : Nat} (h8 : l.length <= 8) (ha : a < l.length) (az : ∀ c ∈ l,97 <= c /\ c <= 122) : isNm (nmK l a s i):=by
 have hlen : (l.take a ++ [97 + (((s : Int) + (i : Int)) % 26).toNat] ++ l.drop (a + 1)).length = l.length:=by
  rw [List.length_append,List.length_append,List.length_take,List.length_drop,List.length_singleton]; omega
 refine nm_mk (by rw [hlen]; omega) (by rw [hlen]; exact h8) fun c hc => ?_
 rcases List.mem_append.mp hc with hc | hc
 ·
  rcases List.mem_append.mp hc with hc | hc
  ·
   exact az c (List.mem_of_mem_take hc)
  ·
   rw [List.mem_singleton.mp hc]
   have:=Int.emod_lt_of_pos ((s : Int) + (i : Int)) (show (0 : Int) < 26 by decide)
   omega
 ·
  exact az c (List.mem_of_mem_drop hc)
theorem nmK_inj {l : List Nat} {a s i j : Nat} (hi : i < 26) (hj : j < 26) (h : nmK l a s i = nmK l a s j) : i = j:=by
 have e:=mkS_inj h
 rw [List.append_assoc,List.append_assoc,List.append_cancel_left_eq,List.singleton_append,List.singleton_append,List.cons.injEq] at e
 have e1:=e.1
 have a1:=Int.emod_nonneg ((s : Int) + (i : Int)) (show (26 : Int) ≠ 0 by decide)
 have a2:=Int.emod_nonneg ((s : Int) + (j : Int)) (show (26 : Int) ≠ 0 by decide)
 omega
theorem nmK_all {l : List Nat} {a s m : Nat} (h8 : l.length <= 8) (ha : a < l.length) (az : ∀ c ∈ l,97 <= c /\ c <= 122) (hm : m <= 8) : Nms ((List.range m).map (nmK l a s)):=by
 refine ⟨fun x hx => ?_,?_⟩
 ·
  obtain ⟨i,_,rfl⟩:=List.mem_map.mp hx
  exact nmK_nm h8 ha az
 ·
  rw [List.Nodup,List.pairwise_map]
  refine List.Pairwise.imp_of_mem (fun {x y} hx hy hne he => ?_) (List.nodup_range (n:=m))
  have h1:=List.mem_range.mp hx
  have h2:=List.mem_range.mp hy
  exact hne (nmK_inj (by omega) (by omega) he)
def spNa : Sp3:=fun ts H Q => ∃ (d : Addr) (m : Nat),ts = [.ref d,.int (m : Int)] /\ 1 <= m /\ m <= 8 /\ Cl H d /\ ∀ (ws : List Str) (H1 : Hp3) (p : Addr),ws.length = m -> Nms ws -> Drw d H H1 -> H1 p = none -> Q (.ref p) (up3 H1 p (.lst (ws.map T.str)))
structure Tb (H0 H : Hp3) (p : Addr) (m : Nat) (as : List Addr) : Prop where
 sb : Sub3 H0 H
 l : as.length = m
 t : H p = some (.lst (as.map T.ref))
 r : ∀ a ∈ as,∃ bs : List Bool,bs.length = m /\ H a = some (.lst (bs.map T.bl))
 np : p ∉ as
 f0 : H0 p = none
 fa : ∀ a ∈ as,H0 a = none
structure Rws (H0 H : Hp3) (m : Nat) (as : List Addr) : Prop where
 sb : Sub3 H0 H
 r : ∀ a ∈ as,∃ bs : List Bool,bs.length = m /\ H a = some (.lst (bs.map T.bl))
 fa : ∀ a ∈ as,H0 a = none
theorem Rws.grow {H0 H : Hp3} {m : Nat} {as : List Addr} {q : Addr} {bs : List Bool} (x : Rws H0 H m as) (hb : bs.length = m) (hq : H q = none) : Rws H0 (up3 H q (.lst (bs.map T.bl))) m (as ++ [q]):=by
 refine ⟨x.sb.trans (Sub3.new hq),fun a ha => ?_,fun a ha => ?_⟩
 ·
  rcases List.mem_append.mp ha with h | h
  ·
   obtain ⟨cs,h1,h2⟩:=x.r a h
   exact ⟨cs,h1,by rw [up3_ne (ne3n h2 hq)]; exact h2⟩
  ·
   rw [List.mem_singleton.mp h]; exact ⟨bs,hb,up3_same⟩
 ·
  rcases List.mem_append.mp ha with h | h
  ·
   exact x.fa a h
  ·
   rw [List.mem_singleton.mp h]; exact sub_none x.sb hq
theorem Tb.put {H0 H : Hp3} {p a : Addr} {m : Nat} {as : List Addr} {bs : List Bool} (x : Tb H0 H p m as) (ha : a ∈ as) (hb : bs.length = m) : Tb H0 (up3 H a (.lst (bs.map T.bl))) p m as:=by
 have hpa : p ≠ a:=fun e => x.np (e ▸ ha)
 refine ⟨fun b u e => by rw [up3_ne (ne3n e (x.fa a ha))]; exact x.sb b u e,x.l,by rw [up3_ne hpa]; exact x.t,fun b hb' => ?_,x.np,x.f0,x.fa⟩
 by_cases e : b = a
 ·
  subst e; exact ⟨bs,hb,up3_same⟩
 ·
  obtain ⟨cs,h1,h2⟩:=x.r b hb'
  exact ⟨cs,h1,by rw [up3_ne e]; exact h2⟩
theorem Tb.at' {H0 H : Hp3} {p : Addr} {m : Nat} {as : List Addr} (x : Tb H0 H p m as) {i : Nat} (hi : i < m) : ∃ (a : Addr) (bs : List Bool),atI (as.map T.ref) (i : Int) = some (.ref a) /\ a ∈ as /\ bs.length = m /\ H a = some (.lst (bs.map T.bl)):=by
 have hl : i < as.length:=by rw [x.l]; exact hi
 obtain ⟨bs,h1,h2⟩:=x.r _ (List.getElem_mem hl)
 exact ⟨as[i],bs,atI_nat (by rw [List.getElem?_map,List.getElem?_eq_getElem hl]; rfl),List.getElem_mem hl,h1,h2⟩
theorem bl_at {bs : List Bool} {j : Nat} (h : j < bs.length) : ∃ b,atI (bs.map T.bl) (j : Int) = some (.bl b):=⟨bs[j],atI_nat (by rw [List.getElem?_map,List.getElem?_eq_getElem h]; rfl)⟩
def spCh : Sp3:=fun ts H Q => ∃ (m : Nat) (a : Addr) (es : List T),ts = [.int (m : Int),.ref a] /\ m <= 8 /\ H a = some (.lst es) /\ es.all (pl 20) = true /\ ∀ (p : Addr) (as : List Addr) (H' : Hp3),Tb H H' p m as -> Q (.ref p) H'
noncomputable def bw (b : Bool) : Str:=if b then "with" else "apart"
noncomputable def pT3 (x : Bool × Nat × Nat) : T:=.tup [.str (bw x.1),.int (x.2.1 : Int),.int (x.2.2 : Int)]
noncomputable def row2 (b : Bool) (m i : Nat) : List (Bool × Nat × Nat):=(List.range m).map fun j => (b,i,j)
noncomputable def enm (b : Bool) (m : Nat) (A : List Nat) : List (Bool × Nat × Nat):=A.flatMap (row2 b m)
noncomputable def full (m : Nat) : List (Bool × Nat × Nat):=enm true m (List.range m) ++ enm false m (List.range m)
theorem full_nd : ∀ m : _root_.Fin 9,(full m.val).Nodup:=by decide +kernel
theorem enm_snoc (b : Bool) (m : Nat) (A : List Nat) (i : Nat) : enm b m (A ++ [i]) = enm b m A ++ row2 b m i:=by simp [enm]
structure Tq (d : Addr) (H0 H : Hp3) (p : Addr) (m : Nat) (as : List Addr) : Prop where
 l : as.length = m
 t : H p = some (.lst (as.map T.ref))
 r : ∀ a ∈ as,∃ bs : List Bool,bs.length = m /\ H a = some (.lst (bs.map T.bl))
 f0 : H0 p = none
 fa : ∀ a ∈ as,H0 a = none
 nd : p ≠ d
 na : ∀ a ∈ as,a ≠ d
theorem Tq.drw {d : Addr} {H0 H H' : Hp3} {p : Addr} {m : Nat} {as : List Addr} (x : Tq d H0 H p m as) (D : Drw d H H') : Tq d H0 H' p m as :=
 ⟨x.l,by rw [D.off _ x.nd]; exact x.t,fun a ha => by obtain ⟨bs,h1,h2⟩:=x.r a ha; exact ⟨bs,h1,by rw [D.off _ (x.na a ha)]; exact h2⟩,x.f0,x.fa,x.nd,x.na⟩
theorem Tq.new {d q : Addr} {H0 H : Hp3} {p : Addr} {m : Nat} {as : List Addr} {o : O3} (x : Tq d H0 H p m as) (hq : H q = none) : Tq d H0 (up3 H q o) p m as :=
 ⟨x.l,by rw [up3_ne (ne3n x.t hq)]; exact x.t,fun a ha => by obtain ⟨bs,h1,h2⟩:=x.r a ha; exact ⟨bs,h1,by rw [up3_ne (ne3n h2 hq)]; exact h2⟩,x.f0,x.fa,x.nd,x.na⟩
theorem Tq.at' {d : Addr} {H0 H : Hp3} {p : Addr} {m : Nat} {as : List Addr} (x : Tq d H0 H p m as) {i : Nat} (hi : i < m) : ∃ (a : Addr) (bs : List Bool),atI (as.map T.ref) (i : Int) = some (.ref a) /\ a ∈ as /\ bs.length = m /\ H a = some (.lst (bs.map T.bl)):=by
 have hl : i < as.length:=by rw [x.l]; exact hi
 obtain ⟨bs,h1,h2⟩:=x.r _ (List.getElem_mem hl)
 exact ⟨as[i],bs,atI_nat (by rw [List.getElem?_map,List.getElem?_eq_getElem hl]; rfl),List.getElem_mem hl,h1,h2⟩
structure PI (d : Addr) (H0 H : Hp3) (pp pe a : Addr) (ws : List Str) (ps : List (Bool × Nat × Nat)) (es : List T) : Prop where
 w : Wt d H0 H [(pp,.lst (ps.map pT3)),(pe,.lst es),(a,.lst (ws.map T.str))]
 ne : pe ≠ pp
 na : a ≠ pp
 l12 : ps.length <= 12
 ea : es.all (pl 20) = true
 el : es.length <= 28 + 2 * ps.length
 ok : ∀ x ∈ ps,x.2.1 ≠ x.2.2 /\ x.2.1 < ws.length /\ x.2.2 < ws.length
theorem PI.drw {d : Addr} {H0 H H' : Hp3} {pp pe a : Addr} {ws : List Str} {ps : List (Bool × Nat × Nat)} {es : List T} (x : PI d H0 H pp pe a ws ps es) (D : Drw d H H') : PI d H0 H' pp pe a ws ps es:={ x with w:=x.w.drw D }
theorem PI.add {d : Addr} {H0 H : Hp3} {pp pe a q : Addr} {ws : List Str} {ps : List (Bool × Nat × Nat)} {es fs : List T} {y : Bool × Nat × Nat} (x : PI d H0 H pp pe a ws ps es) (p0 : H0 pp = none) (h12 : ps.length < 12) (hy : y.2.1 ≠ y.2.2 /\ y.2.1 < ws.length /\ y.2.2 < ws.length) {o : O3} {q0 : Addr}
  (hq0 : up3 H pp (.lst ((ps ++ [y]).map pT3)) q0 = none) (hq : up3 (up3 H pp (.lst ((ps ++ [y]).map pT3))) q0 o q = none) (fa : fs.all (pl 20) = true) (fl : fs.length = 2) : PI d H0 (up3 (up3 (up3 H pp (.lst ((ps ++ [y]).map pT3))) q0 o) q (.lst (es ++ fs))) pp q a ws (ps ++ [y]) (es ++ fs):=by
 have w1:=x.w.set p0 (fun r hr => by
  rcases List.mem_cons.mp hr with rfl | hr
  ·
   exact x.ne
  ·
   rw [List.mem_singleton.mp hr]; exact x.na) (.lst ((ps ++ [y]).map pT3))
 have w2:=(w1.new (o:=o) hq0).tl
 have w3:=w2.new (o:=.lst (es ++ fs)) hq
 refine ⟨⟨w3.cl,w3.kp,fun r hr => w3.at' r ?_⟩,Ne.symm (ne3n w2.hd hq),x.na,by rw [List.length_append,List.length_singleton]; omega,by rw [List.all_append,x.ea,fa]; rfl,by have:=x.el; rw [List.length_append,List.length_append,List.length_singleton,fl]; omega,fun z hz => ?_⟩
 ·
  simp only [List.mem_cons,List.not_mem_nil,or_false] at hr ⊢
  rcases hr with h | h | h
  ·
   exact .inr (.inl h)
  ·
   exact .inl h
  ·
   exact .inr (.inr (.inr h))
 ·
  rcases List.mem_append.mp hz with h | h
  ·
   exact x.ok z h
  ·
   rw [List.mem_singleton.mp h]; exact hy
theorem PI.add1 {d : Addr} {H0 H : Hp3} {pp pe a : Addr} {ws : List Str} {ps : List (Bool × Nat × Nat)} {es : List T} {y : Bool × Nat × Nat} (x : PI d H0 H pp pe a ws ps es) (p0 : H0 pp = none) (h12 : ps.length < 12) (hy : y.2.1 ≠ y.2.2 /\ y.2.1 < ws.length /\ y.2.2 < ws.length) : PI d H0 (up3 H pp (.lst ((ps ++ [y]).map pT3))) pp pe a ws (ps ++ [y]) es:=by
 refine ⟨x.w.set p0 (fun r hr => by
  rcases List.mem_cons.mp hr with rfl | hr
  ·
   exact x.ne
  ·
   rw [List.mem_singleton.mp hr]; exact x.na) _,x.ne,x.na,by rw [List.length_append,List.length_singleton]; omega,x.ea,by have:=x.el; rw [List.length_append,List.length_singleton]; omega,fun z hz => ?_⟩
 rcases List.mem_append.mp hz with h | h
 ·
  exact x.ok z h
 ·
  rw [List.mem_singleton.mp h]; exact hy
theorem PI.sub {d : Addr} {H0 H H' : Hp3} {pp pe a : Addr} {ws : List Str} {ps : List (Bool × Nat × Nat)} {es : List T} (x : PI d H0 H pp pe a ws ps es) (s : Sub3 H H') : PI d H0 H' pp pe a ws ps es:=by
 refine { x with w:=⟨?_,x.w.kp.sub s,fun q hq => ⟨s _ _ (x.w.at' q hq).1,(x.w.at' q hq).2⟩⟩ }
 obtain ⟨ns,h1,h2⟩:=x.w.cl.ex
 exact ⟨ns,s _ _ h1,h2⟩
theorem Tb.tq {d : Addr} {H0 H H' : Hp3} {p : Addr} {m : Nat} {as : List Addr} (x : Tb H H' p m as) (c : Cl H d) (k : Kep d H0 H) : Tq d H0 H' p m as:=by
 have nd : ∀ b,H b = none -> b ≠ d:=fun b hb => c.ne hb
 have f0 : ∀ b,H b = none -> H0 b = none:=fun b hb => by
  cases e : H0 b with
  | none => rfl
  | some o => rw [k b o e (nd b hb)] at hb; cases hb
 exact ⟨x.l,x.t,x.r,f0 _ x.f0,fun a ha => f0 a (x.fa a ha),nd _ x.f0,fun a ha => nd a (x.fa a ha)⟩
theorem Tq.set {d q : Addr} {H0 H : Hp3} {p : Addr} {m : Nat} {as : List Addr} {o : O3} (x : Tq d H0 H p m as) (h1 : p ≠ q) (h2 : ∀ a ∈ as,a ≠ q) : Tq d H0 (up3 H q o) p m as :=
 ⟨x.l,by rw [up3_ne h1]; exact x.t,fun a ha => by obtain ⟨bs,g1,g2⟩:=x.r a ha; exact ⟨bs,g1,by rw [up3_ne (h2 a ha)]; exact g2⟩,x.f0,x.fa,x.nd,x.na⟩
theorem perm_inv {α β : Type} {f : α -> β} : ∀ {ys xs : List β},ys.Perm xs -> ∀ l : List α,xs = l.map f -> ∃ l' : List α,l'.Perm l /\ ys = l'.map f:=by
 intro ys xs h
 induction h with
 | nil => intro l e; rw [List.map_eq_nil_iff.mp e.symm]; exact ⟨[],List.Perm.refl _,rfl⟩
 | cons x _ ih =>
  intro l e
  cases l with
  | nil => cases e
  | cons a r =>
   rw [List.map_cons,List.cons.injEq] at e
   obtain ⟨l',h1,h2⟩:=ih r e.2
   exact ⟨a :: l',h1.cons a,by rw [List.map_cons,h2,e.1]⟩
 | swap x y t =>
  intro l e
  cases l with
  | nil => cases e
  | cons a r =>
   cases r with
   | nil => rw [List.map_cons,List.cons.injEq] at e; cases e.2
   | cons b r =>
    rw [List.map_cons,List.map_cons,List.cons.injEq,List.cons.injEq] at e
    exact ⟨b :: a :: r,List.Perm.swap a b r,by rw [List.map_cons,List.map_cons,<- e.1,<- e.2.1,<- e.2.2]⟩
 | trans _ _ ih1 ih2 =>
  intro l e
  obtain ⟨l2,p2,e2⟩:=ih2 l e
  obtain ⟨l1,p1,e1⟩:=ih1 l2 e2
  exact ⟨l1,p1.trans p2,e1⟩
noncomputable def nmP (ws : List Str) (x : Bool × Nat × Nat) : Str × Str × Str:=(bw x.1,ws.getD x.2.1 "",ws.getD x.2.2 "")
theorem getD_inj {ws : List Str} (h : ws.Nodup) {i j : Nat} (hi : i < ws.length) (hj : j < ws.length) (e : ws.getD i "" = ws.getD j "") : i = j:=by
 rw [List.getD_eq_getElem?_getD,List.getD_eq_getElem?_getD,List.getElem?_eq_getElem hi,List.getElem?_eq_getElem hj] at e
 have e' : ws[i] = ws[j]:=e
 have pw:=List.pairwise_iff_getElem.mp h
 rcases Nat.lt_trichotomy i j with q | q | q
 ·
  exact absurd e' (pw i j hi hj q)
 ·
  exact q
 ·
  exact absurd e'.symm (pw j i hj hi q)
theorem nmP_nd {ws : List Str} (h : ws.Nodup) {ps : List (Bool × Nat × Nat)} (nd : ps.Nodup) (ok : ∀ x ∈ ps,x.2.1 ≠ x.2.2 /\ x.2.1 < ws.length /\ x.2.2 < ws.length) : (ps.map (nmP ws)).Nodup:=by
 rw [List.Nodup,List.pairwise_map]
 refine List.Pairwise.imp_of_mem (fun {x y} hx hy hne he => hne ?_) nd
 have ox:=ok x hx
 have oy:=ok y hy
 obtain ⟨b1,i1,j1⟩:=x
 obtain ⟨b2,i2,j2⟩:=y
 simp only [nmP,Prod.mk.injEq] at he
 have e1 : i1 = i2:=getD_inj h ox.2.1 oy.2.1 he.2.1
 have e2 : j1 = j2:=getD_inj h ox.2.2 oy.2.2 he.2.2
 have e3 : b1 = b2:=by
  have:=he.1
  cases b1 <;> cases b2 <;> first | rfl | (exact absurd this (by decide +kernel))
 rw [e1,e2,e3]
theorem nmP_ok {ws : List Str} (h : ws.Nodup) {x : Bool × Nat × Nat} (o : x.2.1 ≠ x.2.2 /\ x.2.1 < ws.length /\ x.2.2 < ws.length) : ((nmP ws x).1 = "with" \/ (nmP ws x).1 = "apart") /\ (nmP ws x).2.1 ≠ (nmP ws x).2.2 /\ (nmP ws x).2.1 ∈ ws /\ (nmP ws x).2.2 ∈ ws:=by
 have mem : ∀ i,i < ws.length -> ws.getD i "" ∈ ws:=fun i hi => by
  rw [List.getD_eq_getElem?_getD,List.getElem?_eq_getElem hi]
  exact List.getElem_mem hi
 refine ⟨?_,fun e => o.1 (getD_inj h o.2.1 o.2.2 e),mem _ o.2.1,mem _ o.2.2⟩
 obtain ⟨b,i,j⟩:=x
 cases b
 ·
  exact .inr rfl
 ·
  exact .inl rfl
theorem getD_at {ws : List Str} {i : Nat} (h : i < ws.length) : atI (ws.map T.str) (i : Int) = some (.str (ws.getD i "")):=atI_nat (by rw [List.getElem?_map,List.getElem?_eq_getElem h,List.getD_eq_getElem?_getD,List.getElem?_eq_getElem h]; rfl)
theorem sub_go {α : Type} {ps E : List α} {y : α} (h : ps.Sublist E) : (ps ++ [y]).Sublist (E ++ [y]):=h.append (List.Sublist.refl _)
theorem sub_st {α : Type} {ps E : List α} {y : α} (h : ps.Sublist E) : ps.Sublist (E ++ [y]):=h.trans (List.sublist_append_left _ _)
def spPr : Sp3:=fun ts H Q => ∃ (d a o : Addr) (ws : List Str) (es : List T) (lots : Int),ts = [.ref d,.ref a,.ref o,.int lots] /\ 1 <= lots /\ lots <= 100 /\ a ≠ d /\ o ≠ d /\ H a = some (.lst (ws.map T.str)) /\ Nms ws /\ ws.length <= 8 /\ H o = some (.lst es) /\ es.all (pl 20) = true /\ es.length <= 28 /\ Cl H d /\
 ∀ (prs : List (Str × Str × Str)) (p : Addr) (as : List Addr) (H' : Hp3),prs.length <= 12 -> prs.Nodup -> (∀ x ∈ prs,(x.1 = "with" \/ x.1 = "apart") /\ x.2.1 ≠ x.2.2 /\ x.2.1 ∈ ws /\ x.2.2 ∈ ws) -> Cl H' d -> Kep d H H' -> Tq d H H' p ws.length as -> Q (.tup [.tup (prs.map prT),.ref p]) H'
theorem pl_T3 (ps : List (Bool × Nat × Nat)) : (ps.map pT3).all (pl 20) = true:=by rw [List.all_eq_true]; intro t ht; obtain ⟨x,_,rfl⟩:=List.mem_map.mp ht; rfl
def spSk : Sp3:=fun ts H Q => ∃ (d a : Addr) (cm : Str) (ws : List Str),ts = [.ref d,.str cm,.ref a] /\ a ≠ d /\ H a = some (.lst (ws.map T.str)) /\ Nms ws /\ ws.length <= 8 /\ isNm cm /\ Cl H d /\ ∀ (ks : List Str) (H' : Hp3),Nms ks -> ks.length <= 4 -> Drw d H H' -> Q (.tup (ks.map T.str)) H'
theorem Nms.ins {ws : List Str} {i : Nat} {x : Str} (h : Nms ws) (hx : isNm x) (hn : x ∉ ws) : Nms (ws.take i ++ x :: ws.drop i):=by
 have hp : (ws.take i ++ x :: ws.drop i).Perm (x :: ws):=List.perm_middle.trans (by rw [List.take_append_drop])
 refine ⟨fun y hy => ?_,hp.nodup_iff.mpr (List.nodup_cons.mpr ⟨hn,h.nd⟩)⟩
 rcases List.mem_cons.mp (hp.mem_iff.mp hy) with rfl | h'
 ·
  exact hx
 ·
  exact h.nm y h'
theorem mem_insS {ws : List Str} {i : Nat} {x y : Str} (h : y ∈ ws.take i ++ x :: ws.drop i) : y = x \/ y ∈ ws:=by
 have hp : (ws.take i ++ x :: ws.drop i).Perm (x :: ws):=List.perm_middle.trans (by rw [List.take_append_drop])
 exact List.mem_cons.mp (hp.mem_iff.mp h)
theorem range_at {m i : Nat} {A B : List Nat} (e : List.range m = A ++ i :: B) : i = A.length:=by
 have h:=congrArg (fun l => l[A.length]?) e
 simp only [List.getElem?_append_right (Nat.le_refl _),Nat.sub_self,List.getElem?_cons_zero] at h
 have hl : A.length < m:=by
  have:=congrArg List.length e
  simp only [List.length_range,List.length_append,List.length_cons] at this
  omega
 rw [List.getElem?_range hl] at h
 exact (Option.some.inj h).symm
theorem range_pre {m : Nat} {A B : List Nat} (e : List.range m = A ++ B) : A = List.range A.length:=by
 have h:=congrArg (List.take A.length) e
 rw [List.take_left',List.take_range] at h
 ·
  have hl : A.length <= m:=by
   have:=congrArg List.length e
   simp only [List.length_range,List.length_append] at this
   omega
  rw [Nat.min_eq_left hl] at h
  exact h.symm
 ·
  rfl
structure KI (d : Addr) (H3 H0 H : Hp3) (pf pc r a t : Addr) (row ws : List Str) (m : Nat) (as : List Addr) (cs : List Str) (ks : List (List Str)) : Prop where
 w : Wt d H3 H [(pf,.lst (ks.map sT)),(pc,.lst (cs.map T.str)),(r,.lst (row.map T.str)),(a,.lst (ws.map T.str))]
 tq : Tq d H0 H t m as
 nfc : pf ≠ pc
 nr : r ≠ pc /\ r ≠ pf
 na : a ≠ pc /\ a ≠ pf
 nt : t ≠ pc /\ t ≠ pf
 ns : ∀ x ∈ as,x ≠ pc /\ x ≠ pf
 c0 : H3 pc = none
 f0 : H3 pf = none
theorem KI.drw {d : Addr} {H3 H0 H H' : Hp3} {pf pc r a t : Addr} {row ws : List Str} {m : Nat} {as : List Addr} {cs : List Str} {ks : List (List Str)} (x : KI d H3 H0 H pf pc r a t row ws m as cs ks) (D : Drw d H H') : KI d H3 H0 H' pf pc r a t row ws m as cs ks:={ x with w:=x.w.drw D,tq:=x.tq.drw D }
theorem KI.new {d q : Addr} {H3 H0 H : Hp3} {pf pc r a t : Addr} {row ws : List Str} {m : Nat} {as : List Addr} {cs : List Str} {ks : List (List Str)} {o : O3} (x : KI d H3 H0 H pf pc r a t row ws m as cs ks) (hq : H q = none) : KI d H3 H0 (up3 H q o) pf pc r a t row ws m as cs ks:={ x with w:=(x.w.new hq).tl,tq:=x.tq.new hq }
theorem KI.putf {d : Addr} {H3 H0 H : Hp3} {pf pc r a t : Addr} {row ws : List Str} {m : Nat} {as : List Addr} {cs : List Str} {ks : List (List Str)} (x : KI d H3 H0 H pf pc r a t row ws m as cs ks) (ks' : List (List Str)) : KI d H3 H0 (up3 H pf (.lst (ks'.map sT))) pf pc r a t row ws m as cs ks' :=
 { x with
  w:=x.w.set x.f0 (fun q hq => by
   simp only [List.mem_cons,List.not_mem_nil,or_false] at hq
   rcases hq with rfl | rfl | rfl
   ·
    exact Ne.symm x.nfc
   ·
    exact x.nr.2
   ·
    exact x.na.2) _
  tq:=x.tq.set x.nt.2 fun y hy => (x.ns y hy).2 }
theorem KI.putc {d : Addr} {H3 H0 H : Hp3} {pf pc r a t : Addr} {row ws : List Str} {m : Nat} {as : List Addr} {cs : List Str} {ks : List (List Str)} (x : KI d H3 H0 H pf pc r a t row ws m as cs ks) (cs' : List Str) : KI d H3 H0 (up3 H pc (.lst (cs'.map T.str))) pf pc r a t row ws m as cs' ks:=by
 refine { x with
  w:=⟨x.w.cl.new (x.w.at' (pc,.lst (cs.map T.str)) (by simp)).2,x.w.kp.at x.c0,fun q hq => ?_⟩
  tq:=x.tq.set x.nt.1 fun y hy => (x.ns y hy).1 }
 simp only [List.mem_cons,List.not_mem_nil,or_false] at hq
 rcases hq with rfl | rfl | rfl | rfl
 ·
  exact ⟨by rw [up3_ne x.nfc]; exact (x.w.at' (pf,.lst (ks.map sT)) (by simp)).1,(x.w.at' (pf,.lst (ks.map sT)) (by simp)).2⟩
 ·
  exact ⟨up3_same,(x.w.at' (pc,.lst (cs.map T.str)) (by simp)).2⟩
 ·
  exact ⟨by rw [up3_ne x.nr.1]; exact (x.w.at' (r,.lst (row.map T.str)) (by simp)).1,(x.w.at' (r,.lst (row.map T.str)) (by simp)).2⟩
 ·
  exact ⟨by rw [up3_ne x.na.1]; exact (x.w.at' (a,.lst (ws.map T.str)) (by simp)).1,(x.w.at' (a,.lst (ws.map T.str)) (by simp)).2⟩
def spKi : Sp3:=fun ts H Q => ∃ (d r a t : Addr) (row ws : List Str) (m : Nat) (H0 : Hp3) (as : List Addr),ts = [.ref d,.ref r,.ref a,.ref t] /\ r ≠ d /\ a ≠ d /\ H r = some (.lst (row.map T.str)) /\ 1 <= row.length /\ row.length <= 8 /\ (∀ x ∈ row,isNm x) /\ H a = some (.lst (ws.map T.str)) /\ Nms ws /\ ws.length <= 8 /\ Tq d H0 H t m as /\ m <= 8 /\ Cl H d /\
 ∀ (ks : List (List Str)) (H1 : Hp3) (p : Addr),ks.length = m -> (∀ k ∈ ks,Nms k /\ k.length <= 4) -> Drw d H H1 -> H1 p = none -> Q (.ref p) (up3 H1 p (.lst (ks.map sT)))
noncomputable def tkD (ws : List Str) (ls : List Int) (kk : List (List Str)) (k : Nat) : Str × Int × List Str:=(ws.getD k "",ls.getD k 0,kk.getD k [])
noncomputable def oD (ws : List Str) (tv : List Nat) (x : Nat × Nat) : Str × Str:=(ws.getD (tv.getD x.1 0) "",ws.getD (tv.getD x.2 0) "")
theorem getD_mem {α : Type} {l : List α} {d : α} {i : Nat} (h : i < l.length) : l.getD i d ∈ l:=by
 rw [List.getD_eq_getElem?_getD,List.getElem?_eq_getElem h]
 exact List.getElem_mem h
theorem getN_inj {tv : List Nat} (h : tv.Nodup) {i j : Nat} (hi : i < tv.length) (hj : j < tv.length) (e : tv.getD i 0 = tv.getD j 0) : i = j:=by
 rw [List.getD_eq_getElem?_getD,List.getD_eq_getElem?_getD,List.getElem?_eq_getElem hi,List.getElem?_eq_getElem hj] at e
 have e' : tv[i] = tv[j]:=e
 have pw:=List.pairwise_iff_getElem.mp h
 rcases Nat.lt_trichotomy i j with q | q | q
 ·
  exact absurd e' (pw i j hi hj q)
 ·
  exact q
 ·
  exact absurd e'.symm (pw j i hj hi q)
theorem names_D (ws : List Str) (ls : List Int) (kk : List (List Str)) : ((List.range ws.length).map (tkD ws ls kk)).map (·.1) = ws:=by
 apply List.ext_getElem?
 intro i
 rw [List.getElem?_map,List.getElem?_map]
 by_cases h : i < ws.length
 ·
  rw [List.getElem?_range h,List.getElem?_eq_getElem h]
  simp [tkD,List.getD_eq_getElem?_getD,List.getElem?_eq_getElem h]
 ·
  rw [List.getElem?_eq_none (by simp; omega),List.getElem?_eq_none (by omega)]; rfl
theorem wq_ok {ws : List Str} {ls : List Int} {kk : List (List Str)} {tv : List Nat} {os : List (Nat × Nat)} {prs : List (Str × Str × Str)} {row : List Str} (hws : Nms ws) (w1 : 1 <= ws.length) (w8 : ws.length <= 8) (hll : ls.length = ws.length) (hlb : ∀ l ∈ ls,1 <= l /\ l < 10 ^ 60) (hkk : kk.length = ws.length) (hkb : ∀ k ∈ kk,Nms k /\ k.length <= 4)
  (tvl : tv.length = ws.length) (tvn : tv.Nodup) (tvm : ∀ x ∈ tv,x < ws.length) (ol : os.length <= 28) (ond : os.Nodup) (oin : ∀ x ∈ os,x.1 < x.2 /\ x.2 < ws.length) (p12 : prs.length <= 12) (pnd : prs.Nodup) (pok : ∀ x ∈ prs,(x.1 = "with" \/ x.1 = "apart") /\ x.2.1 ≠ x.2.2 /\ x.2.1 ∈ ws /\ x.2.2 ∈ ws)
  (r1 : 1 <= row.length) (r8 : row.length <= 8) (rn : ∀ x ∈ row,isNm x) : WkOk ⟨(List.range ws.length).map (tkD ws ls kk),os.map (oD ws tv),prs,row⟩:=by
 have e:=names_D ws ls kk
 have tm : ∀ i,i < ws.length -> tv.getD i 0 < ws.length:=fun i hi => tvm _ (getD_mem (by omega))
 refine ⟨by show 1 <= ((List.range ws.length).map (tkD ws ls kk)).length; rw [List.length_map,List.length_range]; exact w1,by show ((List.range ws.length).map (tkD ws ls kk)).length <= 8; rw [List.length_map,List.length_range]; exact w8,fun t ht => ?_,by show (((List.range ws.length).map (tkD ws ls kk)).map (·.1)).Nodup; rw [e]; exact hws.nd,by show (os.map (oD ws tv)).length <= 28; rw [List.length_map]; exact ol,?_,fun o ho => ?_,p12,pnd,fun q hq => ?_,r1,r8,rn⟩
 ·
  obtain ⟨k,hk,rfl⟩:=List.mem_map.mp ht
  have hk':=List.mem_range.mp hk
  have hl:=hlb _ (getD_mem (d:=0) (show k < ls.length by omega))
  have hkd:=hkb _ (getD_mem (d:=[]) (show k < kk.length by omega))
  exact ⟨hws.nm _ (getD_mem hk'),hl.1,hl.2,hkd.1,hkd.2⟩
 ·
  show (os.map (oD ws tv)).Nodup
  rw [List.Nodup,List.pairwise_map]
  refine List.Pairwise.imp_of_mem (fun {x y} hx hy hne he => hne ?_) ond
  have ox:=oin x hx
  have oy:=oin y hy
  obtain ⟨i1,j1⟩:=x
  obtain ⟨i2,j2⟩:=y
  simp only at ox oy
  simp only [oD,Prod.mk.injEq] at he
  have q1:=getD_inj hws.nd (tm i1 (by omega)) (tm i2 (by omega)) he.1
  have q2:=getD_inj hws.nd (tm j1 (by omega)) (tm j2 (by omega)) he.2
  rw [getN_inj tvn (by omega) (by omega) q1,getN_inj tvn (by omega) (by omega) q2]
 ·
  show _ /\ o.1 ∈ ((List.range ws.length).map (tkD ws ls kk)).map (·.1) /\ o.2 ∈ ((List.range ws.length).map (tkD ws ls kk)).map (·.1)
  rw [e]
  obtain ⟨x,hx,rfl⟩:=List.mem_map.mp ho
  have ox:=oin x hx
  refine ⟨fun h => ?_,getD_mem (tm _ (by omega)),getD_mem (tm _ (by omega))⟩
  have:=getN_inj tvn (by omega) (by omega) (getD_inj hws.nd (tm _ (by omega)) (tm _ (by omega)) h)
  omega
 ·
  show _ /\ _ /\ q.2.1 ∈ ((List.range ws.length).map (tkD ws ls kk)).map (·.1) /\ q.2.2 ∈ ((List.range ws.length).map (tkD ws ls kk)).map (·.1)
  rw [e]; exact pok q hq
theorem gI_at {ls : List Int} {i : Nat} (h : i < ls.length) : atI (ls.map T.int) (i : Int) = some (.int (ls.getD i 0)):=atI_nat (by rw [List.getElem?_map,List.getElem?_eq_getElem h,List.getD_eq_getElem?_getD,List.getElem?_eq_getElem h]; rfl)
theorem gK_at {ls : List (List Str)} {i : Nat} (h : i < ls.length) : atI (ls.map sT) (i : Int) = some (sT (ls.getD i [])):=atI_nat (by rw [List.getElem?_map,List.getElem?_eq_getElem h,List.getD_eq_getElem?_getD,List.getElem?_eq_getElem h]; rfl)
theorem Wt.kep {c : Addr} {H0 H H' : Hp3} {fs : List (Addr × O3)} (w : Wt c H0 H fs) (cl : Cl H' c) (kp : Kep c H H') : Wt c H0 H' fs:=⟨cl,fun b o h h1 => kp b o (w.kp b o h h1) h1,fun p hp => ⟨kp _ _ (w.at' p hp).1 (w.at' p hp).2,(w.at' p hp).2⟩⟩
noncomputable def tri (m : Nat) (A : List Nat) : List (Nat × Nat):=A.flatMap fun i => (List.range' (i + 1) (m - (i + 1))).map fun j => (i,j)
theorem tri_nd : ∀ m : _root_.Fin 9,(tri m.val (List.range m.val)).Nodup:=by decide +kernel
theorem tri_len : ∀ m : _root_.Fin 9,(tri m.val (List.range m.val)).length <= 28:=by decide +kernel
theorem tri_snoc (m : Nat) (A : List Nat) (i : Nat) : tri m (A ++ [i]) = tri m A ++ (List.range' (i + 1) (m - (i + 1))).map fun j => (i,j):=by simp [tri]
noncomputable def oT (tv : List Nat) (x : Nat × Nat) : T:=.tup [.int ((tv.getD x.1 0 : Nat) : Int),.int ((tv.getD x.2 0 : Nat) : Int)]
theorem rng_2 (i m : Nat) : rng3 ((i : Int) + 1) ((m : Int) - ((i : Int) + 1)).toNat = (List.range' (i + 1) (m - (i + 1))).map fun (j : Nat) => T.int (j : Int):=by
 rw [show ((m : Int) - ((i : Int) + 1)).toNat = m - (i + 1) by omega]
 generalize m - (i + 1) = n
 unfold rng3
 rw [List.range'_eq_map_range,List.map_map]
 exact List.map_congr_left fun k _ => by show T.int _ = T.int _; congr 1
theorem gD_at {tv : List Nat} {i : Nat} (h : i < tv.length) : atI (tv.map fun (k : Nat) => T.int (k : Int)) (i : Int) = some (.int ((tv.getD i 0 : Nat) : Int)):=atI_nat (by rw [List.getElem?_map,List.getElem?_eq_getElem h,List.getD_eq_getElem?_getD,List.getElem?_eq_getElem h]; rfl)
theorem pl_oT (tv : List Nat) (ps : List (Nat × Nat)) : (ps.map (oT tv)).all (pl 20) = true:=by rw [List.all_eq_true]; intro t ht; obtain ⟨x,_,rfl⟩:=List.mem_map.mp ht; rfl
theorem pl_ks (ks : List Nat) : (ks.map fun (k : Nat) => T.int (k : Int)).all (pl 20) = true:=by rw [List.all_eq_true]; intro t ht; obtain ⟨x,_,rfl⟩:=List.mem_map.mp ht; rfl
theorem mem_tri {m : Nat} {x : Nat × Nat} {A : List Nat} (hA : ∀ i ∈ A,i < m) (h : x ∈ tri m A) : x.1 < x.2 /\ x.2 < m:=by
 obtain ⟨i,hi,hx⟩:=List.mem_flatMap.mp h
 obtain ⟨j,hj,rfl⟩:=List.mem_map.mp hx
 have:=List.mem_range'_1.mp hj
 exact ⟨by omega,by omega⟩
end M
namespace M
open PySem PySem.Spec PyProof.Rows L2 L3
noncomputable def top (i : Nat) : Stmt:=PySem.Challenge.pw_stationrow_k31_first_faults.main.body.getD i (.Pass ⟨0,0,0,0⟩)
end M
namespace M
open PySem PySem.Spec PyProof.Rows L2 L3
def nm0 : String := "ne_eq not_false_eq_true up3_ne tSeq3 tAsg3 tC3 gName3 tFor3 tCons3 tNil3 tRet3 tRetN3 tOp3 tIfS3 tAnd3 tOr3 tNot3 tCB3 tBM3 tDrop3 tNext3 gSub3 tCall3 tTup3 tLst3 tIf3 tSl3 tNoPart3 tYes3 q_vq q_var q_bq q_test q_chain q_andV q_orV q_notV q_oq q_I q_I0 q_addI q_addS q_addT q_addL q_catH q_eqI q_eqS q_eqB q_eqT q_eqL q_eqH q_inT q_inS q_inL q_inH q_ixL q_ixH q_ixT q_ixS q_setL q_stH q_pq q_part q_slL q_slH q_slHr q_slT q_slS q_D q_dgH q_dput q_dpH q_dpO q_lenL q_lnH q_lenT q_lenS q_listL q_liH q_listT q_tupL q_tpH q_tupT q_intI q_intB q_strI q_sumL q_smH q_tyS q_tyL q_tyH q_app q_apH q_ext q_exH q_pop q_poH q_joinL q_joH q_joinT q_index q_idH q_rng q_rg1 q_rg2 q_iTup q_tuq q_iList q_liq q_liO q_gNil q_gCons q_gTup up3_same tDisp3 tComp3 tSetComp3 q_all q_alH zip3_self qi_str it_str_str it_int_str it_tup_str it_bl_str it_non_str qi_int it_str_int it_int_int it_tup_int it_bl_int it_non_int qi_bool it_str_bool it_int_bool it_tup_bool it_bl_bool it_non_bool qi_tuple it_str_tuple it_int_tuple it_tup_tuple it_bl_tuple it_non_tuple qi_list it_str_list it_int_list it_tup_list it_bl_list it_non_list dec_rfl decide_true decide_false Bool.not_true Bool.not_false q_prs0 q_prs1 ix_z at0 at1 at2 at3 List.eraseIdx_cons_zero Int.toNat_natCast up3_up3 List.length_map List.length_cons List.length_nil Nat.zero_add Bool.false_eq_true if_false if_true List.getElem?_cons_zero List.getElem?_cons_succ List.set_cons_zero List.set_cons_succ q_neg q_ngq q_intT List.map_cons List.map_nil cut_f1 cut_f2 cut_f3 q_iEnum0 q_en0q q_en0H q_revS q_rvq q_rvH q_iEnumT q_enTq q_any q_anH q_max2 q_min2 q_rep q_rpH q_ins q_insH q_max1 q_mxH q_pop0 q_ppH tBM03 q_eqR q_eqRH q_lsRng q_lrq q_enc0 q_enc1 q_enc2 q_enc3"
local macro_rules | `(tactic| walk_at "cp") => `(tactic| dsimp only [cap3,List.replicate,List.map_cons,List.map_nil,List.cons_append,List.nil_append,List.getElem?_cons_zero,List.getElem?_cons_succ,Option.getD_some])
local macro_rules | `(tactic| walk_at "nx") => `(tactic| (obtain ⟨e⟩:=‹Shut (_ = _)›; subst e; try dsimp only))
local macro_rules | `(tactic| walk_at "rd") => do
 let ls <- (nm0.splitOn " ").toArray.mapM fun n => let i:=Lean.mkIdent n.toName; `(Lean.Parser.Tactic.simpLemma| $i:ident)
 `(tactic| ((try dsimp only [$[$ls:simpLemma],*]); try simp only [*,$[$ls:simpLemma],*]))
section
variable {P : Program} {w : World} {K : PySem.W.Frag} {mg : Str -> Option Value} {base : Heap}
abbrev N_numbers : List Str:=["_law_script","_law_cells","_law_found","_law_cell","_law_k","_law_number"]
theorem sc_numbers : FnScope N_numbers ["_law_script"] (defScope (top 20)):=sc_mk
theorem ok_numbers {f : Addr} {fd : FuncData} (g : G3 K mg "_law_numbers" (top 20) ["_law_script"] f fd) (B : Bl mg) : Cal P w K mg base 1 "_law_numbers" (top 20) ["_law_script"] spNum:=by
 refine ⟨f,fd,g,?_⟩
 refine fn3 g.fn sc_numbers (fun ts H Q h => ?_) (fun cdv A outer s H E ts H3 Q hr h => ?_)
 ·
  obtain ⟨a,ns,rfl,_⟩:=h; rfl
 ·
  have hu30:=Room.u30 hr
  have hu31:=Room.u31 hr
  have hu1:=Room.u1 hr
  obtain ⟨a,ns,rfl,ha,hl,k⟩:=h
  refine ⟨_,(ss3_cons (s3_set (i:=1) sc_numbers.nd (e3_op o3_add (e3_slice (v3 0) po3_none (po3_some c3_int)) (e3_op o3_rep (e3_lst (a3_cons c3_int a3_nil)) (e3_callTy c3_int' rfl B.int_ bt_int (a3_cons (e3_cmp (o3_eqR hu30) (v3 0) (e3_lst a3_nil)) a3_nil)))))
    (ss3_cons (s3_set (i:=2) sc_numbers.nd (e3_lst a3_nil))
    (ss3_cons (s3_if (t3_cmp (o3_eq hu30) (e3_op o3_mod (e3_ix ix3 (v3 1) c3_int) c3_int) c3_int) (ss3_cons (s3_for PassesOwn.never rfl (i3_list (e3_op o3_add (e3_lst (a3_cons (e3_op o3_fdiv (e3_ix ix3 (v3 1) c3_int) c3_int) a3_nil)) (e3_slice (v3 1) (po3_some c3_int) po3_none))) (g3_name (i:=3) sc_numbers.nd) (ss3_one (s3_for PassesOwn.never rfl (i3_range1 rfl B.range_ (a3_cons c3_int a3_nil)) (g3_name (i:=4) sc_numbers.nd) (ss3_cons (s3_expr (e3_bm PySem.F.plainAttrs_list PySem.F.slot_list_append PySem.F.type_list_append m3_append (v3 2) (a3_cons (e3_op o3_mod (v3 3) (e3_op o3_pow c3_int c3_int)) a3_nil)))
       (ss3_one (s3_set (i:=3) sc_numbers.nd (e3_op o3_fdiv (v3 3) (e3_op o3_pow c3_int c3_int))))))))
     (ss3_one (s3_ret (e3_revS (v3 2) (po3_some (e3_neg c3_int)))))) ss3_nil)
    (ss3_cons (s3_set (i:=5) sc_numbers.nd (e3_op o3_mod (e3_op o3_fdiv (e3_ix ix3 (v3 1) c3_int) c3_int) c3_int))
    (ss3_cons (s3_for PassesOwn.never rfl (i3_range1 rfl B.range_ (a3_cons c3_int a3_nil)) (g3_name (i:=4) sc_numbers.nd) (ss3_cons (s3_set (i:=3) sc_numbers.nd (e3_op o3_mod (e3_ix ix3 (v3 1) (e3_op o3_mod (v3 4) (e3_callB c3_len rfl B.len_ bt_len (a3_cons (v3 1) a3_nil)))) c3_int))
     (ss3_cons (s3_set (i:=5) sc_numbers.nd (e3_op o3_mod (e3_op o3_add (e3_op o3_add (e3_op o3_mul (v3 5) (v3 5)) (e3_op o3_mul c3_int (v3 3))) (v3 4)) c3_int))
     (ss3_one (s3_expr (e3_bm PySem.F.plainAttrs_list PySem.F.slot_list_append PySem.F.type_list_append m3_append (v3 2) (a3_cons (e3_op o3_fdiv (e3_op o3_mod (e3_op o3_mul (v3 5) (e3_op o3_add (v3 5) c3_int)) c3_int) c3_int) a3_nil)))))))
    (ss3_one (s3_ret (e3_revS (v3 2) (po3_some (e3_neg c3_int)))))))))),?_⟩
  rw [show start3 N_numbers [T.ref a] = [some (T.ref a),none,none,none,none,none] from rfl]
  have hsz : sizeLine = 16777216:=rfl
  have k':=Box.mk k
  clear k
  refine seq_cut fun R0 hR0 => ?_
  walk_at "rd"
  refine fun p1 hp1 => ⟨by decide,fun p2 hp2 => ⟨by omega,fun p3 hp3 => ?_⟩⟩
  have h2:=(up3_none hp2)
  have h3:=(up3_none hp3)
  have h3':=(up3_none h3.2)
  have na1 : a ≠ p1:=ne3n ha hp1
  have na2 : a ≠ p2:=ne3n ha h2.2
  have na3 : a ≠ p3:=ne3n ha h3'.2
  have hpl : (ns.map T.int).all (pl 20) = true:=by rw [List.all_eq_true]; intro t ht; obtain ⟨x,_,rfl⟩:=List.mem_map.mp ht; rfl
  have n32 : p2 ≠ p3:=Ne.symm h3.1
  have n31 : p1 ≠ p3:=Ne.symm h3'.1
  have n21 : p1 ≠ p2:=Ne.symm h2.1
  walk_at "rd"
  obtain ⟨cs,c1,c63,ecs⟩:=cells_ok ns hl
  refine ⟨trivial,trivial,rfl,⟨by split <;> decide,by split <;> decide,by split <;> decide⟩,fun p4 hp4 => ?_⟩
  have h4:=up3_none hp4
  have h4':=up3_none h4.2
  have h4'':=up3_none h4'.2
  rw [up3_ne (Ne.symm h4''.1),up3_ne n31,up3_ne n21,up3_same,q_catH,ecs]
  have hcl : (cut3 (ns.map T.int) none (some 63)).length + (List.replicate (if decide (ns.map T.int = []) = true then (1 : Int) else 0).toNat [T.int 0]).flatten.length <= 16777216:=by
   have:=congrArg List.length ecs
   rw [List.length_append,List.length_map] at this
   omega
  refine ⟨hcl,fun pc hpc => ?_⟩
  have hS : Sub3 H3 (up3 (up3 (up3 (up3 H3 p1 (.lst (cut3 (ns.map T.int) none (some 63)))) p2 (.lst [T.int 0])) p3 (.lst [])) p4 (.lst (List.replicate (if decide (ns.map T.int = []) = true then (1 : Int) else 0).toNat [T.int 0]).flatten)) :=
   (((Sub3.new hp1).trans (Sub3.new hp2)).trans (Sub3.new hp3)).trans (Sub3.new hp4)
  have hS2:=hS.trans (Sub3.new (o:=.lst (cs.map T.int)) hpc)
  have gc : ∀ H : Hp3,up3 H pc (.lst (cs.map T.int)) pc = some (.lst (cs.map T.int)):=fun _ => up3_same
  have gc:=gc (up3 (up3 (up3 (up3 H3 p1 (.lst (cut3 (ns.map T.int) none (some 63)))) p2 (.lst [T.int 0])) p3 (.lst [])) p4 (.lst (List.replicate (if decide (ns.map T.int = []) = true then (1 : Int) else 0).toNat [T.int 0]).flatten))
  generalize up3 (up3 (up3 (up3 (up3 H3 p1 (.lst (cut3 (ns.map T.int) none (some 63)))) p2 (.lst [T.int 0])) p3 (.lst [])) p4 (.lst (List.replicate (if decide (ns.map T.int = []) = true then (1 : Int) else 0).toNat [T.int 0]).flatten)) pc (.lst (cs.map T.int)) = H5 at hS2 gc
  clear hS hcl ecs hpc hp4 h4 h4' h4'' hp3 h3 h3' hp2 h2 hp1 n32 n31 n21 na1 na2 na3 hpl ha hl
  walk_at "nx"
  refine seq_cut fun R1 hR1 => ?_
  walk_at "rd"
  refine ⟨by omega,fun pf hpf => ?_⟩
  have nb : Nb H3 (up3 H5 pf (.lst [])) pc pf cs []:=⟨hS2.trans (Sub3.new hpf),by rw [up3_ne (ne3n gc hpf)]; exact gc,up3_same,by
   cases e : H3 pf with
   | none => rfl
   | some o => exact absurd (hpf.symm.trans (hS2 _ _ e)) (by simp),ne3n gc hpf⟩
  generalize up3 H5 pf (.lst []) = H6 at nb
  clear hS2 gc hpf
  walk_at "nx"
  cases cs with
  | nil => simp at c1
  | cons c0 cr =>
  refine seq_cut fun R2 hR2 => ?_
  have gc:=nb.c
  rw [List.map_cons] at gc
  walk_at "rd"
  refine ⟨by decide,?_⟩
  by_cases hev : c0 % 2 = 0
  ·
   rw [decide_eq_true hev,if_pos rfl]
   clear hR2
   refine ⟨⟨by decide,by decide +kernel⟩,by decide,fun q1 hq1 => ?_⟩
   have nb1:=nb.new (o:=.lst [T.int (c0 / 2)]) hq1
   have gq : up3 H6 q1 (.lst [T.int (c0 / 2)]) q1 = some (.lst [T.int (c0 / 2)]):=up3_same
   have gc1:=nb1.c
   generalize up3 H6 q1 (.lst [T.int (c0 / 2)]) = H7 at nb1 gq gc1
   clear nb gc hq1
   rw [gc1,q_slH]
   intro q2 hq2
   rw [show (1 : Int) = ((1 : Nat) : Int) from rfl,cut_from,List.map_cons,List.drop_one,List.tail_cons]
   have nb2:=nb1.new (o:=.lst (cr.map T.int)) hq2
   have gq1 : up3 H7 q2 (.lst (cr.map T.int)) q1 = some (.lst [T.int (c0 / 2)]):=by rw [up3_ne (ne3n gq hq2)]; exact gq
   have gq2 : up3 H7 q2 (.lst (cr.map T.int)) q2 = some (.lst (cr.map T.int)):=up3_same
   generalize up3 H7 q2 (.lst (cr.map T.int)) = H8 at nb2 gq1 gq2
   clear nb1 gq gc1 hq2
   rw [List.length_cons] at c63
   rw [q_addL,gq1,gq2,q_catH]
   refine ⟨by rw [List.length_map,List.length_singleton]; omega,fun q3 hq3 => ?_⟩
   have nb3:=nb2.new (o:=.lst ([T.int (c0 / 2)] ++ cr.map T.int)) hq3
   have gq3 : up3 H8 q3 (.lst ([T.int (c0 / 2)] ++ cr.map T.int)) q3 = some (.lst ([T.int (c0 / 2)] ++ cr.map T.int)):=up3_same
   have n3f : q3 ≠ pf:=Ne.symm (ne3n nb2.f hq3)
   rw [show [T.int (c0 / 2)] ++ cr.map T.int = ((c0 / 2) :: cr).map T.int from rfl] at *
   generalize up3 H8 q3 (.lst (((c0 / 2) :: cr).map T.int)) = H9 at nb3 gq3
   clear nb2 gq1 gq2 hq3
   have xl : ((c0 / 2) :: cr).length <= 63:=by rw [List.length_cons]; exact c63
   generalize (c0 / 2) :: cr = xs at *
   walk_at "rd"
   refine iter_pre T.int xs (fun A σ H => ∃ (fs : List Int) (v3 v4 : Option T),σ = [some (.ref a),some (.ref pc),some (.ref pf),v3,v4,none] /\ Nb H3 H pc pf (c0 :: cr) fs /\ H q3 = some (.lst (xs.map T.int)) /\ fs.length = 8 * A.length) ⟨[],_,_,rfl,nb3,gq3,rfl⟩ ?_ ?_
   ·
    rintro σ H ⟨fs,v3,v4,rfl,nb,g3,hf⟩
    refine ⟨.inl g3,?_⟩
    have gf:=nb.f
    clear nb3 gq3
    walk_at "rd"
    refine ⟨by first | trivial | rfl,fun p hp => Fin3.of Sub3.refl (k'.out p _ (nb.sb.trans (Sub3.new hp)) (sub_none nb.sb hp) ⟨fs.reverse,by rw [up3_same,List.map_reverse],by rw [List.length_reverse]; omega⟩)⟩
   ·
    rintro A c B σ H N e ⟨fs,v3,v4,rfl,nb,g3,hf⟩ hN
    refine ⟨.inl g3,?_⟩
    have hA : A.length + 1 <= 63:=by
     have:=congrArg List.length e
     simp only [List.length_append,List.length_cons] at this
     omega
    have hN':=Box.mk hN
    clear hN e nb3 gq3 k'
    walk_at "rd"
    refine ⟨trivial,by decide,by decide,?_⟩
    have rl : (rng3 0 (Int.toNat 8)).length = 8:=by unfold rng3; rw [List.length_map,List.length_range]; rfl
    generalize rng3 0 (Int.toNat 8) = ts0 at rl
    refine iter_go (fun r σ H => ∃ (fs : List Int) (c : Int) (v4 : Option T),σ = [some (.ref a),some (.ref pc),some (.ref pf),some (.int c),v4,none] /\ Nb H3 H pc pf (c0 :: cr) fs /\ H q3 = some (.lst (xs.map T.int)) /\ fs.length + r.length = 8 * (A.length + 1)) ⟨fs,c,_,rfl,nb,g3,by omega⟩ ?_ ?_
    ·
     rintro σ H ⟨fs,c,v4,rfl,nb,g3,hf⟩
     rw [List.length_nil] at hf
     exact ⟨trivial,hN'.out _ _ ⟨fs,_,_,rfl,nb,g3,by rw [List.length_append,List.length_singleton]; omega⟩⟩
    ·
     rintro x r σ H N2 ⟨fs,c,v4,rfl,nb,g3,hf⟩ hN2
     refine ⟨trivial,?_⟩
     rw [List.length_cons] at hf
     have hM:=Box.mk hN2
     have gf:=nb.f
     clear hN2 hN'
     walk_at "rd"
     refine ⟨⟨trivial,trivial⟩,⟨by decide,by decide,by decide⟩,by decide,by omega,⟨by decide,by decide,by decide⟩,⟨by decide,by decide +kernel⟩,?_⟩
     exact hM.out _ _ ⟨_,_,_,rfl,nb.put _,by rw [up3_ne n3f]; exact g3,by rw [List.length_append,List.length_singleton]; omega⟩
  ·
   rw [decide_eq_false hev,if_neg Bool.false_ne_true]
   walk_at "nx"
   refine seq_cut fun R3 hR3 => ?_
   walk_at "rd"
   refine ⟨⟨by decide,by decide +kernel⟩,by decide,?_⟩
   have m0:=Int.emod_nonneg (c0 / 2) (show (2147483629 : Int) ≠ 0 by decide)
   have m1:=Int.emod_lt_of_pos (c0 / 2) (show (0 : Int) < 2147483629 by decide)
   generalize c0 / 2 % 2147483629 = nbr at m0 m1
   walk_at "nx"
   refine seq_cut fun R4 hR4 => ?_
   walk_at "rd"
   refine ⟨by first | trivial | decide,by decide,by decide,?_⟩
   rw [show rng3 0 (Int.toNat 504) = (List.range 504).map (fun (i : Nat) => T.int (i : Int)) from rng_0 504]
   refine iter_pre (fun (i : Nat) => T.int (i : Int)) (List.range 504) (fun A σ H => ∃ (fs : List Int) (v3 v4 : Option T) (nbr : Int),σ = [some (.ref a),some (.ref pc),some (.ref pf),v3,v4,some (.int nbr)] /\ Nb H3 H pc pf (c0 :: cr) fs /\ fs.length = A.length /\ 0 <= nbr /\ nbr < 2147483629) ⟨[],_,_,nbr,rfl,nb,rfl,m0,m1⟩ ?_ ?_
   ·
    rintro σ H ⟨fs,v3,v4,nbr,rfl,nb,hf,_,_⟩
    refine ⟨trivial,?_⟩
    rw [List.length_range] at hf
    walk_at "nx"
    have gf:=nb.f
    walk_at "rd"
    refine ⟨by first | trivial | rfl,fun p hp => Fin3.of Sub3.refl (k'.out p _ (nb.sb.trans (Sub3.new hp)) (sub_none nb.sb hp) ⟨fs.reverse,by rw [up3_same,List.map_reverse],by rw [List.length_reverse]; omega⟩)⟩
   ·
    rintro A c B σ H N e ⟨fs,v3,v4,nbr,rfl,nb,hf,m0,m1⟩ hN
    refine ⟨trivial,?_⟩
    have hA : A.length + 1 <= 504:=by
     have:=congrArg List.length e
     simp only [List.length_append,List.length_cons,List.length_range] at this
     omega
    have hN':=Box.mk hN
    have gc:=nb.c
    obtain ⟨z,_,hz⟩:=at_ex (c0 :: cr) ((c : Int) % ((c0 :: cr).length : Int)) (Int.emod_nonneg _ (by rw [List.length_cons]; omega)) (Int.emod_lt_of_pos _ (by rw [List.length_cons]; omega))
    have hz' : atI ((c0 :: cr).map T.int) ((c : Int) % ((c0 :: cr).length : Int)) = some (T.int z):=by rw [at_map,hz]; rfl
    generalize c0 :: cr = cs at *
    clear hN e hz hR4 k'
    refine seq_cut fun R5 hR5 => ?_
    have cl : (0 : Int) < (cs.length : Int):=by omega
    walk_at "rd"
    refine ⟨by first | trivial | omega,by decide,?_⟩
    have z0:=Int.emod_nonneg z (show (2147483647 : Int) ≠ 0 by decide)
    have z1:=Int.emod_lt_of_pos z (show (0 : Int) < 2147483647 by decide)
    generalize z % 2147483647 = z' at z0 z1
    walk_at "nx"
    refine seq_cut fun R6 hR6 => ?_
    walk_at "rd"
    refine ⟨.inl ⟨by omega,by omega⟩,.inl ⟨by decide,by decide⟩,by decide,?_⟩
    have y0:=Int.emod_nonneg (nbr * nbr + 69621 * z' + (c : Int)) (show (2147483629 : Int) ≠ 0 by decide)
    have y1:=Int.emod_lt_of_pos (nbr * nbr + 69621 * z' + (c : Int)) (show (0 : Int) < 2147483629 by decide)
    generalize (nbr * nbr + 69621 * z' + (c : Int)) % 2147483629 = y at y0 y1
    walk_at "nx"
    have gf:=nb.f
    walk_at "rd"
    refine ⟨⟨trivial,trivial⟩,.inl ⟨by omega,by omega⟩,by decide,⟨by decide,by decide +kernel⟩,by omega,?_⟩
    exact hN'.out _ _ ⟨_,_,_,_,rfl,nb.put _,by rw [List.length_append,List.length_append,List.length_singleton,List.length_singleton]; omega,y0,y1⟩
abbrev N_draw : List Str:=["_law_deck","_law_most"]
theorem sc_draw : FnScope N_draw N_draw (defScope (top 21)):=sc_mk
theorem ok_draw {f : Addr} {fd : FuncData} (g : G3 K mg "_law_draw" (top 21) N_draw f fd) (B : Bl mg) : Cal P w K mg base 1 "_law_draw" (top 21) N_draw spDr:=by
 refine ⟨f,fd,g,?_⟩
 refine fn3 g.fn sc_draw (fun ts H Q h => ?_) (fun cdv A outer s H E ts H3 Q hr h => ?_)
 ·
  obtain ⟨d,m,rfl,_⟩:=h; rfl
 ·
  have hu30:=Room.u30 hr
  have hu31:=Room.u31 hr
  have hu1:=Room.u1 hr
  obtain ⟨d,m,rfl,hm,hC,k⟩:=h
  refine ⟨_,(ss3_cons (s3_if (t3_cmp (o3_eq hu30) (v3 0) (e3_lst a3_nil)) (ss3_one (s3_ret c3_int)) ss3_nil)
    (ss3_one (s3_ret (e3_op o3_mod (e3_bm0 PySem.F.plainAttrs_list PySem.F.slot_list_pop PySem.F.type_list_pop m3_pop (v3 0)) (v3 1))))),?_⟩
  rw [show start3 N_draw [T.ref d,T.int m] = [some (T.ref d),some (T.int m)] from rfl]
  have hsz : sizeLine = 16777216:=rfl
  obtain ⟨ns,hd,hl⟩:=hC.ex
  walk_at "rd"
  refine ⟨by omega,fun p hp => ?_⟩
  have npd : d ≠ p:=ne3n hd hp
  have hpl : (ns.map T.int).all (pl 20) = true:=by rw [List.all_eq_true]; intro t ht; obtain ⟨x,_,rfl⟩:=List.mem_map.mp ht; rfl
  have k':=Box.mk k
  clear k
  walk_at "rd"
  refine ⟨by first | trivial | exact npd,by first | trivial | exact hpl,by first | trivial | rfl,?_⟩
  rcases List.eq_nil_or_concat ns with rfl | ⟨r,n,rfl⟩
  ·
   simp only [List.map_nil,dec_rfl,if_true]
   exact fin_drw (a:=d) (H:=H3) (hC.new (Ne.symm npd)) (Kep.refl.new hp) fun H'' hD => k'.out 0 H'' (Int.le_refl _) hm hD
  ·
   rw [decide_eq_false (by simp),if_neg Bool.false_ne_true]
   rw [List.concat_eq_append] at *
   have e1:=pop_snoc r n
   have e2:=drop_snoc r n
   have hd2 : up3 H3 p (.lst []) d = some (.lst ((r ++ [n]).map T.int)):=by rw [up3_ne npd]; exact hd
   generalize hg : up3 H3 p (.lst []) = H4 at hd2
   clear hpl
   walk_at "rd"
   refine ⟨⟨trivial,trivial⟩,?_⟩
   rw [show (List.map T.int (r ++ [n]))[(r ++ [n]).length - 1]? = some (T.int n) by simp,q_oq]
   walk_at "rd"
   refine ⟨by first | trivial | exact hm,fin_drw (a:=d) (H:=H3) ⟨r,up3_same,by rw [List.length_append,List.length_singleton] at hl; omega⟩ (fun b o hb h1 => ?_) fun H'' hD => k'.out _ H'' (Int.emod_nonneg _ (by omega)) (Int.emod_lt_of_pos _ hm) hD⟩
   rw [up3_ne h1,<- hg,up3_ne (ne3n hb hp)]
   exact hb
abbrev N_great : List Str:=["_law_deck","_law_most","_law_total","_law_k"]
theorem sc_great : FnScope N_great ["_law_deck","_law_most"] (defScope (top 22)):=sc_mk
theorem ok_great {f : Addr} {fd : FuncData} (g : G3 K mg "_law_great" (top 22) ["_law_deck","_law_most"] f fd) (B : Bl mg) (F_draw : Cal P w K mg base 1 "_law_draw" (top 21) ["_law_deck","_law_most"] spDr) : Cal P w K mg base 2 "_law_great" (top 22) ["_law_deck","_law_most"] spGr:=by
 refine ⟨f,fd,g,?_⟩
 refine fn3 g.fn sc_great (fun ts H Q h => ?_) (fun cdv A outer s H E ts H3 Q hr h => ?_)
 ·
  obtain ⟨d,m,rfl,_⟩:=h; rfl
 ·
  have hu30:=Room.u30 hr
  have hu31:=Room.u31 hr
  have hu1:=Room.u1 hr
  obtain ⟨d,m,rfl,hm,hC,k⟩:=h
  refine ⟨_,(ss3_cons (s3_set (i:=2) sc_great.nd c3_int)
    (ss3_cons (s3_for PassesOwn.never rfl (i3_range1 rfl B.range_ (a3_cons c3_int a3_nil)) (g3_name (i:=3) sc_great.nd) (ss3_one (s3_set (i:=2) sc_great.nd (e3_op o3_add (e3_op o3_mul (v3 2) (e3_op o3_pow c3_int c3_int)) (e3_cl F_draw hr rfl (a3_cons (v3 0) (a3_cons (e3_op o3_pow c3_int c3_int) a3_nil)))))))
    (ss3_one (s3_ret (e3_op o3_mod (v3 2) (v3 1)))))),?_⟩
  rw [show start3 N_great [T.ref d,T.int m] = [some (T.ref d),some (T.int m),none,none] from rfl]
  have k':=Box.mk k
  clear k
  refine seq_cut fun R0 hR0 => ?_
  walk_at "rd"
  walk_at "nx"
  refine seq_cut fun R1 hR1 => ?_
  walk_at "rd"
  refine ⟨by first | trivial | decide,by decide,by decide,?_⟩
  generalize rng3 0 (Int.toNat 6) = ts0
  refine iter_go (fun r σ H => ∃ (t : Int) (v3 : Option T),σ = [some (.ref d),some (.int m),some (.int t),v3] /\ Cl H d /\ Kep d H3 H) ⟨_,_,rfl,hC,Kep.refl⟩ ?_ ?_
  ·
   rintro σ H ⟨t,v3,rfl,hc,hk⟩
   refine ⟨trivial,?_⟩
   walk_at "nx"
   walk_at "rd"
   refine ⟨by first | trivial | exact hm,fin_drw hc hk fun H'' hD => k'.out _ H'' (Int.emod_nonneg _ (by omega)) (Int.emod_lt_of_pos _ hm) hD⟩
  ·
   rintro x r σ H N ⟨t,v3,rfl,hc,hk⟩ hN
   refine ⟨trivial,?_⟩
   have hN':=Box.mk hN
   clear hN hR1 k'
   walk_at "rd"
   refine ⟨⟨by decide,by decide,by decide⟩,.inr ⟨by decide,by decide⟩,⟨by decide,by decide,by decide⟩,d,10 ^ Int.toNat 12,rfl,by decide,hc,fun n H5 n0 n1 hD => ?_⟩
   exact hN'.out _ _ ⟨_,_,rfl,hD.cl,hk.drw hD⟩
abbrev N_turn : List Str:=["_law_deck","_law_things","_law_left","_law_found"]
theorem sc_turn : FnScope N_turn ["_law_deck","_law_things"] (defScope (top 25)):=sc_mk
theorem ok_turn {f : Addr} {fd : FuncData} (g : G3 K mg "_law_turn" (top 25) ["_law_deck","_law_things"] f fd) (B : Bl mg) (F_draw : Cal P w K mg base 1 "_law_draw" (top 21) ["_law_deck","_law_most"] spDr) : Cal P w K mg base 2 "_law_turn" (top 25) ["_law_deck","_law_things"] spTu:=by
 refine ⟨f,fd,g,?_⟩
 refine fn3 g.fn sc_turn (fun ts H Q h => ?_) (fun cdv A outer s H E ts H3 Q hr h => ?_)
 ·
  obtain ⟨d,a,xs,rfl,_⟩:=h; rfl
 ·
  have hu30:=Room.u30 hr
  have hu31:=Room.u31 hr
  have hu1:=Room.u1 hr
  obtain ⟨d,a,xs,rfl,nad,ha,hp20,hl,hC,k⟩:=h
  refine ⟨_,(ss3_cons (s3_set (i:=2) sc_turn.nd (e3_callTy c3_list rfl B.list_ bt_list (a3_cons (v3 1) a3_nil)))
    (ss3_cons (s3_set (i:=3) sc_turn.nd (e3_lst a3_nil))
    (ss3_cons (s3_while PassesOwn.never (t3_cmp (o3_ne hu30) (v3 2) (e3_lst a3_nil)) (ss3_one (s3_expr (e3_bm PySem.F.plainAttrs_list PySem.F.slot_list_append PySem.F.type_list_append m3_append (v3 3) (a3_cons (e3_bm PySem.F.plainAttrs_list PySem.F.slot_list_pop PySem.F.type_list_pop m3_popAt (v3 2) (a3_cons (e3_cl F_draw hr rfl (a3_cons (v3 0) (a3_cons (e3_callB c3_len rfl B.len_ bt_len (a3_cons (v3 2) a3_nil)) a3_nil))) a3_nil)) a3_nil)))))
    (ss3_one (s3_ret (v3 3)))))),?_⟩
  rw [show start3 N_turn [T.ref d,T.ref a] = [some (T.ref d),some (T.ref a),none,none] from rfl]
  have hsz : sizeLine = 16777216:=rfl
  have k':=Box.mk k
  clear k
  have w0 : Wt d H3 H3 []:=⟨hC,Kep.refl,(fun _ h => nomatch h)⟩
  refine seq_cut fun R0 hR0 => ?_
  walk_at "rd"
  intro pl_ hpl_
  have l0:=w0.fresh hpl_
  have w1:=w0.new (o:=.lst xs) hpl_
  generalize up3 H3 pl_ (.lst xs) = H4 at w1
  clear w0 hpl_
  walk_at "nx"
  refine seq_cut fun R1 hR1 => ?_
  walk_at "rd"
  refine ⟨by omega,fun pf hpf => ?_⟩
  have f0:=w1.fresh hpf
  have nfl : pf ≠ pl_:=Ne.symm (ne3n w1.hd hpf)
  have w2:=w1.new (o:=.lst []) hpf
  generalize up3 H4 pf (.lst []) = H5 at w2
  clear w1 hpf
  walk_at "nx"
  refine seq_cut fun R2 hR2 => ?_
  show tWhile3 _ _ _ _ _
  refine while_cut (fun m σ H => ∃ (ls fs : List T),m = ls.length /\ σ = [some (.ref d),some (.ref a),some (.ref pl_),some (.ref pf)] /\ Wt d H3 H [(pf,.lst fs),(pl_,.lst ls)] /\ (fs ++ ls).Perm xs /\ ls.all (pl 20) = true) ⟨_,xs,[],rfl,rfl,w2,List.Perm.refl _,hp20⟩ ?_
  intro m σ H hI WI TB NX hWI hTB hNX
  obtain ⟨ls,fs,rfl,rfl,w,hperm,hls⟩:=hI
  have hlen:=hperm.length_eq
  rw [List.length_append] at hlen
  have gl:=w.tl.hd
  have gf:=w.hd
  clear w2
  walk_at "rd"
  refine ⟨by omega,fun pe hpe => ?_⟩
  have w3:=w.new (o:=.lst []) hpe
  have gl3:=w3.tl.tl.hd
  have nle : pl_ ≠ pe:=ne3n gl hpe
  walk_at "rd"
  refine ⟨trivial,trivial,rfl,?_⟩
  have npd : pf ≠ d:=(w.at' _ List.mem_cons_self).2
  have gf3:=w3.tl.hd
  generalize up3 H pe (.lst []) = H6 at w3 gl3 gf3
  clear w gl gf hpe nle
  cases ls with
  | nil =>
   rw [if_neg (by simp)]
   clear hTB hWI
   obtain ⟨hNX⟩:=hNX
   subst hNX
   walk_at "nx"
   walk_at "rd"
   rw [List.append_nil] at hperm
   exact fin_drw2 w3.cl w3.kp gf3 f0 npd fun H1 hD h1 => k'.out fs H1 pf hperm hD h1
  | cons t r =>
   rw [if_pos (by simp)]
   clear hNX hR2 k'
   obtain ⟨hTB⟩:=hTB
   subst hTB
   have w3':=w3.tl
   clear w3
   walk_at "rd"
   refine ⟨⟨trivial,trivial⟩,⟨trivial,trivial⟩,d,_,rfl,by omega,w3'.cl,fun n H7 n0 n1 hD => ?_⟩
   have w4:=w3'.drw hD
   have gl4:=w4.tl.hd
   have gf4:=w4.hd
   clear w3' gl3 gf3 hD
   obtain ⟨j,rfl⟩ : ∃ j : Nat,n = (j : Int):=⟨n.toNat,by omega⟩
   have hj : j < (t :: r).length:=by rw [List.length_cons]; omega
   have ej:=ixN_nat hj
   have ex:=List.getElem?_eq_getElem hj
   have pe:=er_perm hj
   have le:=List.length_eraseIdx_of_lt hj
   generalize (t :: r)[j] = x at ex pe
   have hal:=all_er hls j
   have w5:=(w4.swap.set l0 (fun q hq => by rw [List.mem_singleton.mp hq]; exact nfl) (.lst ((t :: r).eraseIdx j))).swap.set f0 (fun q hq => by rw [List.mem_singleton.mp hq]; exact Ne.symm nfl) (.lst (fs ++ [x]))
   have hfl : fs.length < 60:=by rw [List.length_cons] at hlen; omega
   have nfl':=Ne.symm nfl
   have hpm : (fs ++ [x] ++ (t :: r).eraseIdx j).Perm xs:=by
    refine List.Perm.trans ?_ hperm
    rw [List.append_assoc]
    exact (List.Perm.refl fs).append pe
   have hlr:=Box.mk (show (t :: r).length = r.length + 1 from rfl)
   have le':=Box.mk le
   generalize hls' : (t :: r) = ls at *
   clear w4 hls hperm pe hls' le
   walk_at "rd"
   exact ⟨by omega,(ls.eraseIdx j).length,by have:=hlr.out; have:=le'.out; omega,by rw [hWI.out]; exact ⟨_,fs ++ [x],rfl,rfl,w5,hpm,hal⟩⟩
abbrev N_some_kinds : List Str:=["_law_deck","_law_common","_law_names_here","_law_found","_law_name"]
theorem sc_some_kinds : FnScope N_some_kinds ["_law_deck","_law_common","_law_names_here"] (defScope (top 29)):=sc_mk
theorem ok_some_kinds {f : Addr} {fd : FuncData} (g : G3 K mg "_law_some_kinds" (top 29) ["_law_deck","_law_common","_law_names_here"] f fd) (B : Bl mg) (F_turn : Cal P w K mg base 2 "_law_turn" (top 25) ["_law_deck","_law_things"] spTu) (F_draw : Cal P w K mg base 1 "_law_draw" (top 21) ["_law_deck","_law_most"] spDr) : Cal P w K mg base 3 "_law_some_kinds" (top 29) ["_law_deck","_law_common","_law_names_here"] spSk:=by
 refine ⟨f,fd,g,?_⟩
 refine fn3 g.fn sc_some_kinds (fun ts H Q h => ?_) (fun cdv A outer s H E ts H3 Q hr h => ?_)
 ·
  obtain ⟨d,a,cm,ws,rfl,_⟩:=h; rfl
 ·
  have hu30:=Room.u30 hr
  have hu31:=Room.u31 hr
  have hu1:=Room.u1 hr
  obtain ⟨d,a,cm,ws,rfl,nad,ha,hws,w8,hcm,hC,k⟩:=h
  refine ⟨_,(ss3_cons (s3_set (i:=3) sc_some_kinds.nd (e3_lst (a3_cons (v3 1) a3_nil)))
    (ss3_cons (s3_for PassesOwn.never rfl (i3_list (e3_cl F_turn hr rfl (a3_cons (v3 0) (a3_cons (e3_comp rfl (compSc (n0:=(defScope (top 29)).names) (N:=N_some_kinds) (N':=["_law_name","_law_common"]) (nt:=1) (cap:=[1]) rfl rfl (by decide +kernel)) (i3_list (v3 2)) (fun cl pins s H C0 fp => ⟨(g3_name (i:=0) (show List.Nodup [("_law_name" : Str),("_law_common" : Str)] by decide +kernel)),(if3_one (t3_cmp (o3_ne hu30) (v3 0) (v3 1))),(v3 0)⟩)) a3_nil)))) (g3_name (i:=4) sc_some_kinds.nd) (ss3_one (s3_if (PW3.pt (w3_and (t3_cmp o3_lt (e3_callB c3_len rfl B.len_ bt_len (a3_cons (v3 3) a3_nil)) c3_int) (w3_and1 (t3_cmp (o3_eq hu30) (e3_cl F_draw hr rfl (a3_cons (v3 0) (a3_cons c3_int a3_nil))) c3_int)))) (ss3_one (s3_expr (e3_bm PySem.F.plainAttrs_list PySem.F.slot_list_insert PySem.F.type_list_insert m3_insert (v3 3) (a3_cons (e3_cl F_draw hr rfl (a3_cons (v3 0) (a3_cons (e3_op o3_add (e3_callB c3_len rfl B.len_ bt_len (a3_cons (v3 3) a3_nil)) c3_int) a3_nil))) (a3_cons (v3 4) a3_nil))))) ss3_nil)))
    (ss3_one (s3_ret (e3_callTy c3_tuple rfl B.tuple_ bt_tuple (a3_cons (v3 3) a3_nil)))))),?_⟩
  rw [show start3 N_some_kinds [T.ref d,T.str cm,T.ref a] = [some (T.ref d),some (T.str cm),some (T.ref a),none,none] from rfl]
  have hsz : sizeLine = 16777216:=rfl
  have k':=Box.mk k
  clear k
  have w0 : Wt d H3 H3 [(a,.lst (ws.map T.str))]:=⟨hC,Kep.refl,fun q hq => by rw [List.mem_singleton.mp hq]; exact ⟨ha,nad⟩⟩
  clear hC
  refine seq_cut fun R0 hR0 => ?_
  walk_at "rd"
  refine ⟨by decide,fun pf hpf => ?_⟩
  have f0:=w0.fresh hpf
  have nfa : a ≠ pf:=ne3n ha hpf
  have w1:=w0.new (o:=.lst [T.str cm]) hpf
  generalize up3 H3 pf (.lst [T.str cm]) = H4 at w1
  clear w0 hpf ha
  walk_at "nx"
  refine seq_cut fun R1 hR1 => ?_
  have gA:=w1.tl.hd
  walk_at "rd"
  walk_at "cp"
  refine cIter_filt T.str T.str (fun x => !decide (x = cm)) ws [some (.str cm)] (.inl gA) (by omega) (fun x hx Q' hq => ?_) (fun x hx _ Q' hq => hq) (fun q hq => ?_)
  ·
   have hq':=Box.mk hq
   clear k' hq hR1
   walk_at "rd"
   first | exact hq'.out | trivial
  have w2:=w1.new (o:=.lst ((ws.filter fun x => !decide (x = cm)).map T.str)) hq
  have gq:=w2.hd
  generalize up3 H4 q (.lst ((ws.filter fun x => !decide (x = cm)).map T.str)) = H5 at w2 gq
  clear w1 hq gA
  refine ⟨d,q,(ws.filter fun x => !decide (x = cm)).map T.str,rfl,(w2.at' _ List.mem_cons_self).2,gq,pl_strs _,by rw [List.length_map]; have:=List.length_filter_le (fun x => !decide (x = cm)) ws; omega,w2.cl,fun ys H6 q2 hperm hD hq2 => ?_⟩
  obtain ⟨fs,hp',rfl⟩:=perm_inv hperm _ rfl
  have fnm : Nms fs:=⟨fun x hx => hws.nm x (List.mem_filter.mp (hp'.mem_iff.mp hx)).1,hp'.nodup_iff.mpr (hws.nd.filter _)⟩
  have fcm : cm ∉ fs:=fun h => by
   have:=(List.mem_filter.mp (hp'.mem_iff.mp h)).2
   simp at this
  have fl : fs.length <= 8:=by rw [hp'.length_eq]; have:=List.length_filter_le (fun x => !decide (x = cm)) ws; omega
  have w3:=(w2.drw hD).tl.new (o:=.lst (fs.map T.str)) hq2
  have gq2:=w3.hd
  have nfq : pf ≠ q2:=ne3n (w2.drw hD).tl.hd hq2
  generalize up3 H6 q2 (.lst (fs.map T.str)) = H7 at w3 gq2
  clear w2 hD hq2 gq hperm hp'
  try dsimp only
  walk_at "rd"
  have w4 : Wt d H3 H7 [(pf,.lst ([cm].map T.str)),(q2,.lst (fs.map T.str))]:=⟨w3.cl,w3.kp,fun x hx => by
   rcases List.mem_cons.mp hx with rfl | hx
   ·
    exact w3.at' _ (by simp)
   ·
    rw [List.mem_singleton.mp hx]; exact w3.at' _ List.mem_cons_self⟩
  clear w3 gq2
  refine iter_pre T.str fs (fun A σ H => ∃ (ks : List Str) (v4 : Option T),σ = [some (.ref d),some (.str cm),some (.ref a),some (.ref pf),v4] /\ Nms ks /\ ks.length <= 4 /\ (∀ x ∈ ks,x = cm \/ x ∈ A) /\ Wt d H3 H [(pf,.lst (ks.map T.str)),(q2,.lst (fs.map T.str))]) ⟨[cm],_,rfl,⟨fun x hx => by rw [List.mem_singleton.mp hx]; exact hcm,by simp⟩,by simp,fun x hx => .inl (List.mem_singleton.mp hx),w4⟩ ?_ ?_
  ·
   rintro σ H ⟨ks,v4,rfl,hk,k4,_,w⟩
   refine ⟨.inl w.tl.hd,?_⟩
   have g:=w.hd
   walk_at "nx"
   clear w4
   try dsimp only
   walk_at "rd"
   exact fin_drw w.cl w.kp fun H'' hD => k'.out ks H'' hk k4 hD
  ·
   rintro A x B σ H N e ⟨ks,v4,rfl,hk,k4,hin,w⟩ hN
   refine ⟨.inl w.tl.hd,?_⟩
   have hx : isNm x:=fnm.nm x (by rw [e]; simp)
   have hnx : x ∉ ks:=fun h => by
    rcases hin x h with h | h
    ·
     exact fcm (by rw [<- h,e]; simp)
    ·
     have nd:=fnm.nd
     rw [e,List.nodup_append] at nd
     exact nd.2.2 x h x List.mem_cons_self rfl
   have hN':=Box.mk hN
   have hin':=Box.mk hin
   clear hN hin e k' hR1 w4
   have g:=w.hd
   walk_at "rd"
   have stay : ∀ H6,Wt d H3 H6 [(pf,.lst (ks.map T.str)),(q2,.lst (fs.map T.str))] -> N [some (.ref d),some (.str cm),some (.ref a),some (.ref pf),some (.str x)] H6:=fun H6 w' => hN'.out _ _ ⟨ks,_,rfl,hk,k4,fun y hy => (hin'.out y hy).imp id fun h => List.mem_append_left _ h,w'⟩
   have stay':=Box.mk stay
   clear stay
   split
   ·
    rename_i h4
    have h4' : ks.length < 4:=by have:=of_decide_eq_true h4; omega
    refine ⟨d,2,rfl,by decide,w.cl,fun n1 H8 p0 p1 hD1 => ?_⟩
    have w5:=w.drw hD1
    have g5:=w5.hd
    clear w g hD1
    walk_at "rd"
    split
    ·
     refine ⟨⟨trivial,trivial⟩,d,_,rfl,by omega,w5.cl,fun n2 H9 r0 r1 hD2 => ?_⟩
     have w6:=w5.drw hD2
     have g6:=w6.hd
     clear w5 g5 hD2
     walk_at "rd"
     have em : (ks.map T.str).take n2.toNat ++ T.str x :: (ks.map T.str).drop n2.toNat = (ks.take n2.toNat ++ x :: ks.drop n2.toNat).map T.str:=by
      rw [List.map_append,List.map_cons,List.map_take,List.map_drop]
     rw [em]
     refine ⟨⟨by first | trivial | omega,by first | trivial | omega,by first | trivial | omega⟩,hN'.out _ _ ⟨ks.take n2.toNat ++ x :: ks.drop n2.toNat,_,rfl,hk.ins hx hnx,?_,fun y hy => ?_,w6.set f0 (fun q hq => by rw [List.mem_singleton.mp hq]; exact Ne.symm nfq) _⟩⟩
     ·
      rw [List.length_append,List.length_cons,List.length_take,List.length_drop]; omega
     ·
      rcases mem_insS hy with rfl | h
      ·
       exact .inr (List.mem_append_right _ (List.mem_singleton.mpr rfl))
      ·
       exact (hin'.out y h).imp id fun h => List.mem_append_left _ h
    ·
     exact stay'.out _ w5
   ·
    exact stay'.out _ w
abbrev N_kinds : List Str:=["_law_deck","_law_row","_law_names_here","_law_table","_law_many","_law_commons","_law_found","_law_i","_law_first"]
theorem sc_kinds : FnScope N_kinds ["_law_deck","_law_row","_law_names_here","_law_table"] (defScope (top 30)):=sc_mk
theorem ok_kinds {f : Addr} {fd : FuncData} (g : G3 K mg "_law_kinds" (top 30) ["_law_deck","_law_row","_law_names_here","_law_table"] f fd) (B : Bl mg) (F_draw : Cal P w K mg base 1 "_law_draw" (top 21) ["_law_deck","_law_most"] spDr) (F_some_kinds : Cal P w K mg base 3 "_law_some_kinds" (top 29) ["_law_deck","_law_common","_law_names_here"] spSk) : Cal P w K mg base 4 "_law_kinds" (top 30) ["_law_deck","_law_row","_law_names_here","_law_table"] spKi:=by
 refine ⟨f,fd,g,?_⟩
 refine fn3 g.fn sc_kinds (fun ts H Q h => ?_) (fun cdv A outer s H E ts H3 Q hr h => ?_)
 ·
  obtain ⟨d,r,a,t,row,ws,m,H0,as,rfl,_⟩:=h; rfl
 ·
  have hu30:=Room.u30 hr
  have hu31:=Room.u31 hr
  have hu1:=Room.u1 hr
  obtain ⟨d,r,a,t,row,ws,m,H0,as,rfl,nrd,nad,hr',r1,r8,hrow,ha,hws,w8,tq,m8,hC,k⟩:=h
  refine ⟨_,(ss3_cons (s3_set (i:=4) sc_kinds.nd (e3_callB c3_len rfl B.len_ bt_len (a3_cons (v3 3) a3_nil)))
    (ss3_cons (s3_set (i:=5) sc_kinds.nd (e3_lst a3_nil))
    (ss3_cons (s3_set (i:=6) sc_kinds.nd (e3_lst a3_nil))
    (ss3_cons (s3_for PassesOwn.never rfl (i3_range1 rfl B.range_ (a3_cons (v3 4) a3_nil)) (g3_name (i:=7) sc_kinds.nd) (ss3_cons (s3_set (i:=8) sc_kinds.nd (e3_ix ix3 (e3_comp rfl (compSc (n0:=(defScope (top 30)).names) (N:=N_kinds) (N':=["_law_j","_law_i","_law_table"]) (nt:=1) (cap:=[7,3]) rfl rfl (by decide +kernel)) (i3_range1 rfl B.range_ (a3_cons (v3 4) a3_nil)) (fun cl pins s H C0 fp => ⟨(g3_name (i:=0) (show List.Nodup [("_law_j" : Str),("_law_i" : Str),("_law_table" : Str)] by decide +kernel)),(if3_one (PW3.pt (w3_or (t3_cmp (o3_eq hu30) (v3 0) (v3 1)) (w3_or1 (PW3.pt (w3_and (t3_val (e3_ix ix3 (e3_ix ix3 (v3 2) (v3 1)) (v3 0))) (w3_and1 (t3_val (e3_ix ix3 (e3_ix ix3 (v3 2) (v3 0)) (v3 1)))))))))),(v3 0)⟩)) c3_int))
     (ss3_cons (s3_if (t3_cmp (o3_eq hu30) (v3 8) (v3 7)) (ss3_one (s3_expr (e3_bm PySem.F.plainAttrs_list PySem.F.slot_list_append PySem.F.type_list_append m3_append (v3 5) (a3_cons (e3_ix ix3 (v3 1) (e3_cl F_draw hr rfl (a3_cons (v3 0) (a3_cons (e3_callB c3_len rfl B.len_ bt_len (a3_cons (v3 1) a3_nil)) a3_nil)))) a3_nil)))) (ss3_one (s3_expr (e3_bm PySem.F.plainAttrs_list PySem.F.slot_list_append PySem.F.type_list_append m3_append (v3 5) (a3_cons (e3_ix ix3 (v3 5) (v3 8)) a3_nil)))))
     (ss3_one (s3_if (t3_cmp (o3_eq hu30) (e3_cl F_draw hr rfl (a3_cons (v3 0) (a3_cons c3_int a3_nil))) c3_int) (ss3_one (s3_expr (e3_bm PySem.F.plainAttrs_list PySem.F.slot_list_append PySem.F.type_list_append m3_append (v3 6) (a3_cons (e3_cl F_some_kinds hr rfl (a3_cons (v3 0) (a3_cons (e3_ix ix3 (v3 5) (v3 7)) (a3_cons (v3 2) a3_nil)))) a3_nil)))) (ss3_one (s3_expr (e3_bm PySem.F.plainAttrs_list PySem.F.slot_list_append PySem.F.type_list_append m3_append (v3 6) (a3_cons (e3_tup a3_nil) a3_nil)))))))))
    (ss3_one (s3_ret (v3 6))))))),?_⟩
  rw [show start3 N_kinds [T.ref d,T.ref r,T.ref a,T.ref t] = [some (T.ref d),some (T.ref r),some (T.ref a),some (T.ref t),none,none,none,none,none] from rfl]
  have hsz : sizeLine = 16777216:=rfl
  have k':=Box.mk k
  clear k
  have gt:=tq.t
  have tl : as.length = m:=tq.l
  have w0 : Wt d H3 H3 [(r,.lst (row.map T.str)),(a,.lst (ws.map T.str))]:=⟨hC,Kep.refl,fun q hq => by
   rcases List.mem_cons.mp hq with rfl | hq
   ·
    exact ⟨hr',nrd⟩
   ·
    rw [List.mem_singleton.mp hq]; exact ⟨ha,nad⟩⟩
  clear hC
  have rg : rng3 0 m = (List.range m).map fun (i : Nat) => T.int (i : Int):=rng_0 _
  refine seq_cut fun R0 hR0 => ?_
  walk_at "rd"
  walk_at "nx"
  refine seq_cut fun R1 hR1 => ?_
  walk_at "rd"
  refine ⟨by omega,fun pc hpc => ?_⟩
  have c0:=w0.fresh hpc
  have nrc : r ≠ pc:=ne3n hr' hpc
  have nac : a ≠ pc:=ne3n ha hpc
  have ntc : t ≠ pc:=ne3n gt hpc
  have nsc : ∀ x ∈ as,x ≠ pc:=fun x hx => by obtain ⟨bs,_,h2⟩:=tq.r x hx; exact ne3n h2 hpc
  have w1:=w0.new (o:=.lst []) hpc
  have tq1:=tq.new (o:=.lst []) hpc
  generalize up3 H3 pc (.lst []) = H4 at w1 tq1
  clear hpc gt
  walk_at "nx"
  refine seq_cut fun R2 hR2 => ?_
  walk_at "rd"
  refine ⟨by omega,fun pf hpf => ?_⟩
  have ki : KI d H3 H0 (up3 H4 pf (.lst [])) pf pc r a t row ws m as [] [] :=
   ⟨w1.new hpf,tq1.new hpf,Ne.symm (ne3n w1.hd hpf),⟨nrc,ne3n w1.tl.hd hpf⟩,⟨nac,ne3n w1.tl.tl.hd hpf⟩,⟨ntc,ne3n tq1.t hpf⟩,fun x hx => ⟨nsc x hx,by obtain ⟨bs,_,h2⟩:=tq1.r x hx; exact ne3n h2 hpf⟩,c0,w1.fresh hpf⟩
  generalize up3 H4 pf (.lst []) = H5 at ki
  clear w1 tq1 hpf nrc nac ntc nsc c0 tq
  walk_at "nx"
  refine seq_cut fun R3 hR3 => ?_
  walk_at "rd"
  refine ⟨by first | trivial | omega,by omega,by omega,?_⟩
  try rw [rg]
  refine iter_pre (fun (i : Nat) => T.int (i : Int)) (List.range m) (fun A σ H => ∃ (cs : List Str) (ks : List (List Str)) (v7 v8 : Option T),σ = [some (.ref d),some (.ref r),some (.ref a),some (.ref t),some (.int (m : Int)),some (.ref pc),some (.ref pf),v7,v8] /\ KI d H3 H0 H pf pc r a t row ws m as cs ks /\ cs.length = A.length /\ ks.length = A.length /\ (∀ c ∈ cs,isNm c) /\ (∀ k ∈ ks,Nms k /\ k.length <= 4)) ⟨[],[],_,_,rfl,ki,rfl,rfl,(fun _ h => nomatch h),(fun _ h => nomatch h)⟩ ?_ ?_
  ·
   rintro σ H ⟨cs,ks,v7,v8,rfl,ki,hcl,hkl,hc,hk⟩
   refine ⟨trivial,?_⟩
   rw [List.length_range] at hkl
   walk_at "nx"
   walk_at "rd"
   exact fin_drw2 ki.w.cl ki.w.kp ki.w.hd ki.f0 (ki.w.at' _ List.mem_cons_self).2 fun H1 hD h1 => k'.out ks H1 pf hkl hk hD h1
  ·
   rintro A i B σ H N e ⟨cs,ks,v7,v8,rfl,ki,hcl,hkl,hc,hk⟩ hN
   refine ⟨trivial,?_⟩
   have hi : i < m:=List.mem_range.mp (by rw [e]; simp)
   have hiA:=Box.mk (range_at e)
   have hN':=Box.mk hN
   have hcl':=Box.mk hcl
   have hkl':=Box.mk hkl
   clear hN e k' hR3 hcl hkl
   refine seq_cut fun R4 hR4 => ?_
   walk_at "rd"
   refine ⟨by first | trivial | omega,by omega,by omega,?_⟩
   try rw [rg]
   walk_at "cp"
   refine cIter_pre (fun (j : Nat) => T.int (j : Int)) (List.range m) (fun A2 ys σ H' => ∃ (js : List Nat) (v : Option T),σ = [v,some (.int (i : Int)),some (.ref t)] /\ ys = js.map (fun (j : Nat) => T.int (j : Int)) /\ js.length <= A2.length /\ H = H' /\ ((js = [] /\ i ∉ A2) \/ ∃ f rest,js = f :: rest /\ f <= i)) ⟨[],_,rfl,rfl,Nat.le_refl _,rfl,.inl ⟨rfl,by simp⟩⟩ ?_ ?_
   rotate_left
   ·
    rintro A2 j B2 ys σ H' N2 e2 ⟨js,v,rfl,rfl,hjl,rfl,hjs⟩ hN2
    refine ⟨trivial,?_⟩
    have hj : j < m:=List.mem_range.mp (by rw [e2]; simp)
    have hjA:=range_at e2
    have hpr:=range_pre e2
    have hA2 : A2.length < 8:=by omega
    have app : N2 (js.map (fun (j : Nat) => T.int (j : Int)) ++ [T.int (j : Int)]) [some (T.int (j : Int)),some (.int (i : Int)),some (.ref t)] H:=hN2 _ _ _ ⟨js ++ [j],_,rfl,by rw [List.map_append]; rfl,by rw [List.length_append,List.length_append]; simp only [List.length_singleton]; omega,rfl,.inr (by
     rcases hjs with ⟨rfl,hni⟩ | ⟨f,rest,rfl,hf⟩
     ·
      refine ⟨j,[],rfl,?_⟩
      rw [hpr,List.mem_range,<- hjA] at hni
      omega
     ·
      exact ⟨f,rest ++ [j],rfl,hf⟩)⟩
    have skip : j ≠ i -> N2 (js.map (fun (j : Nat) => T.int (j : Int))) [some (T.int (j : Int)),some (.int (i : Int)),some (.ref t)] H:=fun hne => hN2 _ _ _ ⟨js,_,rfl,rfl,by rw [List.length_append]; simp only [List.length_singleton]; omega,rfl,by
     rcases hjs with ⟨rfl,hni⟩ | h
     ·
      exact .inl ⟨rfl,fun h => by
       rcases List.mem_append.mp h with h | h
       ·
        exact hni h
       ·
        exact hne (List.mem_singleton.mp h).symm⟩
     ·
      exact .inr h⟩
    have app':=Box.mk app
    have skip':=Box.mk skip
    have gt:=ki.tq.t
    obtain ⟨ri,bi,gi,hri,li,gri⟩:=ki.tq.at' hi
    obtain ⟨rj,bj,gj,hrj,lj,grj⟩:=ki.tq.at' hj
    obtain ⟨x1,gx1⟩:=bl_at (show j < bi.length by omega)
    obtain ⟨x2,gx2⟩:=bl_at (show i < bj.length by omega)
    have hjl' : js.length < 8:=by omega
    clear li lj app skip hN2 hN' hjs hjA hpr e2 hR4 hjl rg
    walk_at "rd"
    by_cases hji : (j : Int) = (i : Int)
    ·
     rw [decide_eq_true hji,if_pos rfl]
     exact ⟨by omega,app'.out⟩
    ·
     rw [decide_eq_false hji,if_neg Bool.false_ne_true]
     have sk:=skip'.out (fun h => hji (by rw [h]))
     split
     ·
      split
      ·
       exact ⟨by omega,app'.out⟩
      ·
       exact sk
     ·
      exact sk
   ·
    rintro ys σ H' ⟨js,v,rfl,rfl,hjl,rfl,hjs⟩
    rw [List.length_range] at hjl
    refine ⟨trivial,by rw [List.length_map]; omega,fun q hq => ?_⟩
    obtain ⟨f,rest,rfl,hf⟩ : ∃ f rest,js = f :: rest /\ f <= i:=hjs.resolve_left fun h => h.2 (List.mem_range.mpr hi)
    have ki2:=ki.new (o:=.lst ((f :: rest).map fun (j : Nat) => T.int (j : Int))) hq
    generalize up3 H q (.lst ((f :: rest).map fun (j : Nat) => T.int (j : Int))) = H6 at ki2
    clear ki hq hjs hjl
    rw [List.map_cons,at0,q_oq]
    walk_at "nx"
    refine seq_cut fun R5 hR5 => ?_
    have il : cs.length = i:=hcl'.out.trans hiA.out.symm
    have key : ∀ (c : Str) (H7 : Hp3),isNm c -> KI d H3 H0 H7 pf pc r a t row ws m as (cs ++ [c]) ks -> R5 { nx:=N,rt:=Fin3 Q,bk:=R3 { nx:=fun x H' => Fin3 Q T.non H',rt:=Fin3 Q },ct:=N } [some (T.ref d),some (T.ref r),some (T.ref a),some (T.ref t),some (T.int (m : Int)),some (T.ref pc),some (T.ref pf),some (T.int (i : Int)),some (T.int (f : Int))] H7:=fun c H7 hcn ki7 => by
     walk_at "nx"
     clear ki2
     have hcs : ∀ x ∈ cs ++ [c],isNm x:=fun x hx => by
      rcases List.mem_append.mp hx with h | h
      ·
       exact hc x h
      ·
       rw [List.mem_singleton.mp h]; exact hcn
     have gci : atI ((cs ++ [c]).map T.str) (i : Int) = some (.str c):=atI_nat (by rw [<- il]; simp)
     have il':=Box.mk il
     clear il
     walk_at "rd"
     refine ⟨d,3,rfl,by decide,ki7.w.cl,fun n H8 p0 p1 hD => ?_⟩
     have ki8:=ki7.drw hD
     have gf:=ki8.w.hd
     have gc:=ki8.w.tl.hd
     have gA:=ki8.w.tl.tl.tl.hd
     have kl : ks.length < 8:=by rw [hkl'.out,<- hiA.out]; omega
     clear ki7 hD
     walk_at "rd"
     split
     ·
      refine ⟨⟨trivial,trivial⟩,d,a,c,ws,rfl,nad,gA,hws,w8,hcn,ki8.w.cl,fun k1 H9 hk1 hk4 hD9 => ?_⟩
      have ki9:=ki8.drw hD9
      have gf9:=ki9.w.hd
      clear ki8 hD9 gf gc gA
      try dsimp only
      walk_at "rd"
      have em : ks.map sT ++ [T.tup (k1.map T.str)] = (ks ++ [k1]).map sT:=by rw [List.map_append]; rfl
      rw [em]
      refine ⟨by omega,hN'.out _ _ ⟨cs ++ [c],ks ++ [k1],_,_,rfl,ki9.putf _,by rw [List.length_append,List.length_append,hcl'.out]; rfl,by rw [List.length_append,List.length_append,hkl'.out]; rfl,hcs,fun k hk' => ?_⟩⟩
      rcases List.mem_append.mp hk' with h | h
      ·
       exact hk k h
      ·
       rw [List.mem_singleton.mp h]; exact ⟨hk1,hk4⟩
     ·
      have em : ks.map sT ++ [T.tup []] = (ks ++ [[]]).map sT:=by rw [List.map_append]; rfl
      rw [em]
      refine ⟨⟨trivial,trivial⟩,by first | trivial | omega,by omega,hN'.out _ _ ⟨cs ++ [c],ks ++ [[]],_,_,rfl,ki8.putf _,by rw [List.length_append,List.length_append,hcl'.out]; rfl,by rw [List.length_append,List.length_append,hkl'.out]; rfl,hcs,fun k hk' => ?_⟩⟩
      rcases List.mem_append.mp hk' with h | h
      ·
       exact hk k h
      ·
       rw [List.mem_singleton.mp h]; exact ⟨Nms.nil,by decide⟩
    have key':=Box.mk key
    have gc:=ki2.w.tl.hd
    have gr:=ki2.w.tl.tl.hd
    have cl8 : cs.length < 8:=by omega
    clear key hR5
    walk_at "rd"
    by_cases hfi : (f : Int) = (i : Int)
    ·
     rw [decide_eq_true hfi,if_pos rfl]
     refine ⟨⟨trivial,trivial⟩,d,_,rfl,by omega,ki2.w.cl,fun n H7 p0 p1 hD => ?_⟩
     have ki3:=ki2.drw hD
     have gr3:=ki3.w.tl.tl.hd
     have gc3:=ki3.w.tl.hd
     clear ki2 hD gc gr
     obtain ⟨z,hz,ez⟩:=at_ex row n p0 (by omega)
     have ez' : atI (row.map T.str) n = some (T.str z):=by rw [at_map,ez]; rfl
     clear ez
     have em : cs.map T.str ++ [T.str z] = (cs ++ [z]).map T.str:=by rw [List.map_append]; rfl
     walk_at "rd"
     have fin:=key'.out z _ (hrow z hz) (ki3.putc _)
     rw [hfi] at fin
     exact ⟨by omega,fin⟩
    ·
     rw [decide_eq_false hfi,if_neg Bool.false_ne_true]
     have hfl : f < cs.length:=by omega
     have gz : atI (cs.map T.str) (f : Int) = some (T.str cs[f]):=atI_nat (by rw [List.getElem?_map,List.getElem?_eq_getElem hfl]; rfl)
     have hz:=hc _ (List.getElem_mem hfl)
     generalize cs[f] = z at gz hz
     have em : cs.map T.str ++ [T.str z] = (cs ++ [z]).map T.str:=by rw [List.map_append]; rfl
     rw [gz,q_oq,em]
     exact ⟨⟨trivial,trivial⟩,by omega,key'.out z _ hz (ki2.putc _)⟩
abbrev N_chained : List Str:=["_law_many","_law_edges","_law_table","_law_k","_law_i","_law_j"]
theorem sc_chained : FnScope N_chained ["_law_many","_law_edges"] (defScope (top 27)):=sc_mk
theorem ok_chained {f : Addr} {fd : FuncData} (g : G3 K mg "_law_chained" (top 27) ["_law_many","_law_edges"] f fd) (B : Bl mg) : Cal P w K mg base 1 "_law_chained" (top 27) ["_law_many","_law_edges"] spCh:=by
 refine ⟨f,fd,g,?_⟩
 refine fn3 g.fn sc_chained (fun ts H Q h => ?_) (fun cdv A outer s H E ts H3 Q hr h => ?_)
 ·
  obtain ⟨m,a,es,rfl,_⟩:=h; rfl
 ·
  have hu30:=Room.u30 hr
  have hu31:=Room.u31 hr
  have hu1:=Room.u1 hr
  obtain ⟨m,a,es,rfl,m8,ha,hes,k⟩:=h
  refine ⟨_,(ss3_cons (s3_setC (i:=2) rfl sc_chained.nd (compSc (n0:=(defScope (top 27)).names) (N:=N_chained) (N':=["_law_i","_law_edges","_law_many"]) (nt:=1) (cap:=[1,0]) rfl rfl (by decide +kernel)) (i3_range1 rfl B.range_ (a3_cons (v3 0) a3_nil)) (fun cl pins s H C0 fp => ⟨(g3_name (i:=0) (show List.Nodup [("_law_i" : Str),("_law_edges" : Str),("_law_many" : Str)] by decide +kernel)),if3_nil,(e3_comp rfl (compSc2 (n00:=(defScope (top 27)).names) (N:=["_law_i","_law_edges","_law_many"]) (N':=["_law_j","_law_edges","_law_i"]) (nt:=1) (cap:=[1,0]) rfl rfl rfl (by decide +kernel)) (i3_range1 rfl B.range_ (a3_cons (v3 2) a3_nil)) (fun cl pins s H C0 fp => ⟨(g3_name (i:=0) (show List.Nodup [("_law_j" : Str),("_law_edges" : Str),("_law_i" : Str)] by decide +kernel)),if3_nil,(e3_cmp (o3_in hu31) (e3_tup (a3_cons (v3 2) (a3_cons (v3 0) a3_nil))) (v3 1) rfl)⟩))⟩))
    (ss3_cons (s3_for PassesOwn.never rfl (i3_range1 rfl B.range_ (a3_cons (v3 0) a3_nil)) (g3_name (i:=3) sc_chained.nd) (ss3_one (s3_for PassesOwn.never rfl (i3_range1 rfl B.range_ (a3_cons (v3 0) a3_nil)) (g3_name (i:=4) sc_chained.nd) (ss3_one (s3_for PassesOwn.never rfl (i3_range1 rfl B.range_ (a3_cons (v3 0) a3_nil)) (g3_name (i:=5) sc_chained.nd) (ss3_one (s3_asg (e3_or (e3_ix ix3 (e3_ix ix3 (v3 2) (v3 4)) (v3 5)) (e3_one (e3_and (e3_ix ix3 (e3_ix ix3 (v3 2) (v3 4)) (v3 3)) (e3_one (e3_ix ix3 (e3_ix ix3 (v3 2) (v3 3)) (v3 5)))))) (g3_sub (e3_ix ix3 (v3 2) (v3 4)) (v3 5) set3_list))))))))
    (ss3_one (s3_ret (v3 2))))),?_⟩
  rw [show start3 N_chained [T.int (m : Int),T.ref a] = [some (T.int (m : Int)),some (T.ref a),none,none,none,none] from rfl]
  have hsz : sizeLine = 16777216:=rfl
  have k':=Box.mk k
  clear k
  have rg : rng3 0 m = (List.range m).map fun (i : Nat) => T.int (i : Int):=rng_0 m
  refine seq_cut fun R0 hR0 => ?_
  walk_at "rd"
  refine ⟨by first | trivial | omega,by omega,by omega,?_⟩
  try rw [rg]
  walk_at "cp"
  refine cIter_pre (fun (i : Nat) => T.int (i : Int)) (List.range m) (fun A ys σ H => ∃ (as : List Addr) (v : Option T),σ = [v,some (.ref a),some (.int (m : Int))] /\ ys = as.map T.ref /\ as.length = A.length /\ Rws H3 H m as) ⟨[],_,rfl,rfl,rfl,Sub3.refl,(fun _ h => nomatch h),(fun _ h => nomatch h)⟩ ?_ ?_
  rotate_left
  ·
   rintro A i B ys σ H N e ⟨as,v,rfl,rfl,hl,hx⟩ hN
   refine ⟨trivial,?_⟩
   have hA : A.length < 8:=by
    have:=congrArg List.length e
    simp only [List.length_append,List.length_cons,List.length_range] at this
    omega
   have hN':=Box.mk hN
   have ha':=hx.sb _ _ ha
   clear hN e k' hR0 ha
   walk_at "rd"
   refine ⟨by first | trivial | omega,by omega,by omega,?_⟩
   try rw [rg]
   walk_at "cp"
   refine cIter_pure (fun (j : Nat) => T.int (j : Int)) (fun j => .bl (memB false (.tup [.int (i : Int),.int (j : Int)]) es)) (List.range m) [some (.ref a),some (.int (i : Int))] trivial (by rw [List.length_range]; omega) (fun j hj Q' hq => ?_) (fun q hq => ?_)
   ·
    clear hN' rg
    walk_at "rd"
    exact ⟨by decide,rfl,trivial,trivial⟩
   ·
    rw [show (List.range m).map (fun (j : Nat) => T.bl (memB false (.tup [.int (i : Int),.int (j : Int)]) es)) = ((List.range m).map fun (j : Nat) => memB false (.tup [.int (i : Int),.int (j : Int)]) es).map T.bl by rw [List.map_map]; rfl]
    refine ⟨by first | omega | (rw [List.length_map,hl]; omega),hN'.out _ _ _ ⟨as ++ [q],_,rfl,by rw [List.map_append]; rfl,by rw [List.length_append,List.length_append,hl]; rfl,hx.grow (by rw [List.length_map,List.length_range]) hq⟩⟩
  rintro ys σ H ⟨as,v,rfl,rfl,hl,hx⟩
  rw [List.length_range] at hl
  refine ⟨trivial,by rw [List.length_map]; omega,fun p hp => ?_⟩
  have tb : Tb H3 (up3 H p (.lst (as.map T.ref))) p m as:=by
   refine ⟨hx.sb.trans (Sub3.new hp),hl,up3_same,fun b hb => ?_,fun hin => ?_,sub_none hx.sb hp,hx.fa⟩
   ·
    obtain ⟨bs,h1,h2⟩:=hx.r b hb
    exact ⟨bs,h1,by rw [up3_ne (ne3n h2 hp)]; exact h2⟩
   ·
    obtain ⟨bs,_,h2⟩:=hx.r p hin
    rw [h2] at hp; cases hp
  generalize up3 H p (.lst (as.map T.ref)) = H4 at tb
  clear hx hp
  walk_at "nx"
  refine seq_cut fun R1 hR1 => ?_
  walk_at "rd"
  refine ⟨by first | trivial | omega,by omega,by omega,?_⟩
  try rw [rg]
  refine iter_pre (fun (i : Nat) => T.int (i : Int)) (List.range m) (fun _ σ H => ∃ (v3 v4 v5 : Option T),σ = [some (.int (m : Int)),some (.ref a),some (.ref p),v3,v4,v5] /\ Tb H3 H p m as) ⟨_,_,_,rfl,tb⟩ ?_ ?_
  ·
   rintro σ H ⟨v3,v4,v5,rfl,tb⟩
   refine ⟨trivial,?_⟩
   walk_at "nx"
   walk_at "rd"
   exact Fin3.of Sub3.refl (k'.out p as H tb)
  ·
   rintro A1 kk B1 σ H N1 e1 ⟨v3,v4,v5,rfl,tb⟩ hN1
   refine ⟨trivial,?_⟩
   have hk : kk < m:=List.mem_range.mp (by rw [e1]; simp)
   have hM1:=Box.mk hN1
   clear hN1 e1 hR1 k' ha
   walk_at "rd"
   refine ⟨by first | trivial | omega,by omega,by omega,?_⟩
   try rw [rg]
   refine iter_pre (fun (i : Nat) => T.int (i : Int)) (List.range m) (fun _ σ H => ∃ (v4 v5 : Option T),σ = [some (.int (m : Int)),some (.ref a),some (.ref p),some (.int (kk : Int)),v4,v5] /\ Tb H3 H p m as) ⟨_,_,rfl,tb⟩ ?_ ?_
   ·
    rintro σ H ⟨v4,v5,rfl,tb⟩
    exact ⟨trivial,hM1.out _ _ ⟨_,_,_,rfl,tb⟩⟩
   ·
    rintro A2 ii B2 σ H N2 e2 ⟨v4,v5,rfl,tb⟩ hN2
    refine ⟨trivial,?_⟩
    have hii : ii < m:=List.mem_range.mp (by rw [e2]; simp)
    have hM2:=Box.mk hN2
    clear hN2 e2 hM1
    walk_at "rd"
    refine ⟨by first | trivial | omega,by omega,by omega,?_⟩
    try rw [rg]
    refine iter_pre (fun (i : Nat) => T.int (i : Int)) (List.range m) (fun _ σ H => ∃ (v5 : Option T),σ = [some (.int (m : Int)),some (.ref a),some (.ref p),some (.int (kk : Int)),some (.int (ii : Int)),v5] /\ Tb H3 H p m as) ⟨_,rfl,tb⟩ ?_ ?_
    ·
     rintro σ H ⟨v5,rfl,tb⟩
     exact ⟨trivial,hM2.out _ _ ⟨_,_,rfl,tb⟩⟩
    ·
     rintro A3 jj B3 σ H N3 e3 ⟨v5,rfl,tb⟩ hN3
     refine ⟨trivial,?_⟩
     have hjj : jj < m:=List.mem_range.mp (by rw [e3]; simp)
     have hM3:=Box.mk hN3
     clear hN3 e3 hM2 rg
     have gt:=tb.t
     obtain ⟨ri,bi,gi,hri,li,gri⟩:=tb.at' hii
     obtain ⟨rk,bk,gk,hrk,lk,grk⟩:=tb.at' hk
     obtain ⟨x1,gx1⟩:=bl_at (show jj < bi.length by omega)
     obtain ⟨x2,gx2⟩:=bl_at (show kk < bi.length by omega)
     obtain ⟨x3,gx3⟩:=bl_at (show jj < bk.length by omega)
     have li':=Box.mk li
     clear li lk
     have fin : ∀ b : Bool,oq (ixN bi.length (jj : Int)) fun j => N3 [some (T.int (m : Int)),some (T.ref a),some (T.ref p),some (T.int (kk : Int)),some (T.int (ii : Int)),some (T.int (jj : Int))] (up3 H ri (O3.lst ((List.map T.bl bi).set j (T.bl b)))):=fun b => by
      rw [ixN_nat (by have:=li'.out; omega),q_oq,<- List.map_set]
      exact hM3.out _ _ ⟨_,rfl,tb.put hri (by rw [List.length_set]; exact li'.out)⟩
     have fin':=Box.mk fin
     clear fin
     walk_at "rd"
     split
     ·
      exact fin'.out true
     ·
      split
      ·
       exact fin'.out x3
      ·
       exact fin'.out false
abbrev N_pairs : List Str:=["_law_deck","_law_names_here","_law_orders","_law_lots","_law_many","_law_pairs_here","_law_edges","_law_i","_law_j","_law_table"]
theorem sc_pairs : FnScope N_pairs ["_law_deck","_law_names_here","_law_orders","_law_lots"] (defScope (top 28)):=sc_mk
theorem ok_pairs {f : Addr} {fd : FuncData} (g : G3 K mg "_law_pairs" (top 28) ["_law_deck","_law_names_here","_law_orders","_law_lots"] f fd) (B : Bl mg) (F_turn : Cal P w K mg base 2 "_law_turn" (top 25) ["_law_deck","_law_things"] spTu) (F_draw : Cal P w K mg base 1 "_law_draw" (top 21) ["_law_deck","_law_most"] spDr) (F_chained : Cal P w K mg base 1 "_law_chained" (top 27) ["_law_many","_law_edges"] spCh) : Cal P w K mg base 3 "_law_pairs" (top 28) ["_law_deck","_law_names_here","_law_orders","_law_lots"] spPr:=by
 refine ⟨f,fd,g,?_⟩
 refine fn3 g.fn sc_pairs (fun ts H Q h => ?_) (fun cdv A outer s H E ts H3 Q hr h => ?_)
 ·
  obtain ⟨d,a,o,ws,es,lots,rfl,_⟩:=h; rfl
 ·
  have hu30:=Room.u30 hr
  have hu31:=Room.u31 hr
  have hu1:=Room.u1 hr
  obtain ⟨d,a,o,ws,es,lots,rfl,l1,l100,nad,nod,ha,hws,w8,ho,hes,e28,hC,k⟩:=h
  refine ⟨_,(ss3_cons (s3_set (i:=4) sc_pairs.nd (e3_callB c3_len rfl B.len_ bt_len (a3_cons (v3 1) a3_nil)))
    (ss3_cons (s3_set (i:=5) sc_pairs.nd (e3_lst a3_nil))
    (ss3_cons (s3_set (i:=6) sc_pairs.nd (e3_callTy c3_list rfl B.list_ bt_list (a3_cons (v3 2) a3_nil)))
    (ss3_cons (s3_for PassesOwn.never rfl (i3_range1 rfl B.range_ (a3_cons (v3 4) a3_nil)) (g3_name (i:=7) sc_pairs.nd) (ss3_one (s3_for PassesOwn.never rfl (i3_range1 rfl B.range_ (a3_cons (v3 4) a3_nil)) (g3_name (i:=8) sc_pairs.nd) (ss3_one (s3_if (PW3.pt (w3_and (t3_cmp (o3_ne hu30) (v3 7) (v3 8)) (w3_and (t3_cmp (o3_eq hu30) (e3_cl F_draw hr rfl (a3_cons (v3 0) (a3_cons (e3_op o3_mul c3_int (v3 3)) a3_nil))) c3_int) (w3_and1 (t3_cmp o3_lt (e3_callB c3_len rfl B.len_ bt_len (a3_cons (v3 5) a3_nil)) c3_int))))) (ss3_cons (s3_expr (e3_bm PySem.F.plainAttrs_list PySem.F.slot_list_append PySem.F.type_list_append m3_append (v3 5) (a3_cons (e3_tup (a3_cons c3_str (a3_cons (v3 7) (a3_cons (v3 8) a3_nil)))) a3_nil)))
       (ss3_one (s3_set (i:=6) sc_pairs.nd (e3_op o3_add (v3 6) (e3_lst (a3_cons (e3_tup (a3_cons (v3 7) (a3_cons (v3 8) a3_nil))) (a3_cons (e3_tup (a3_cons (v3 8) (a3_cons (v3 7) a3_nil))) a3_nil))))))) ss3_nil)))))
    (ss3_cons (s3_set (i:=9) sc_pairs.nd (e3_cl F_chained hr rfl (a3_cons (v3 4) (a3_cons (v3 6) a3_nil))))
    (ss3_cons (s3_for PassesOwn.never rfl (i3_range1 rfl B.range_ (a3_cons (v3 4) a3_nil)) (g3_name (i:=7) sc_pairs.nd) (ss3_one (s3_for PassesOwn.never rfl (i3_range1 rfl B.range_ (a3_cons (v3 4) a3_nil)) (g3_name (i:=8) sc_pairs.nd) (ss3_one (s3_if (PW3.pt (w3_and (t3_cmp (o3_ne hu30) (v3 7) (v3 8)) (w3_and (t3_cmp (o3_eq hu30) (e3_cl F_draw hr rfl (a3_cons (v3 0) (a3_cons (v3 3) a3_nil))) c3_int) (w3_and (t3_not (PW3.pt (w3_and (t3_val (e3_ix ix3 (e3_ix ix3 (v3 9) (v3 7)) (v3 8))) (w3_and1 (t3_val (e3_ix ix3 (e3_ix ix3 (v3 9) (v3 8)) (v3 7))))))) (w3_and1 (t3_cmp o3_lt (e3_callB c3_len rfl B.len_ bt_len (a3_cons (v3 5) a3_nil)) c3_int)))))) (ss3_one (s3_expr (e3_bm PySem.F.plainAttrs_list PySem.F.slot_list_append PySem.F.type_list_append m3_append (v3 5) (a3_cons (e3_tup (a3_cons c3_str (a3_cons (v3 7) (a3_cons (v3 8) a3_nil)))) a3_nil)))) ss3_nil)))))
    (ss3_cons (s3_set (i:=5) sc_pairs.nd (e3_cl F_turn hr rfl (a3_cons (v3 0) (a3_cons (v3 5) a3_nil))))
    (ss3_one (s3_ret (e3_tup (a3_cons (e3_callTy c3_tuple rfl B.tuple_ bt_tuple (a3_cons (e3_comp rfl (compSc (n0:=(defScope (top 28)).names) (N:=N_pairs) (N':=["_law_word","_law_i","_law_j","_law_names_here"]) (nt:=3) (cap:=[1]) rfl rfl (by decide +kernel)) (i3_list (v3 5)) (fun cl pins s H C0 fp => ⟨(g3_tup (n:=3) rfl (gs3_cons (g3_name (i:=0) (show List.Nodup [("_law_word" : Str),("_law_i" : Str),("_law_j" : Str),("_law_names_here" : Str)] by decide +kernel)) (gs3_cons (g3_name (i:=1) (show List.Nodup [("_law_word" : Str),("_law_i" : Str),("_law_j" : Str),("_law_names_here" : Str)] by decide +kernel)) (gs3_cons (g3_name (i:=2) (show List.Nodup [("_law_word" : Str),("_law_i" : Str),("_law_j" : Str),("_law_names_here" : Str)] by decide +kernel)) gs3_nil)))),if3_nil,(e3_tup (a3_cons (v3 0) (a3_cons (e3_ix ix3 (v3 3) (v3 1)) (a3_cons (e3_ix ix3 (v3 3) (v3 2)) a3_nil))))⟩)) a3_nil)) (a3_cons (v3 9) a3_nil)))))))))))),?_⟩
  rw [show start3 N_pairs [T.ref d,T.ref a,T.ref o,T.int lots] = [some (T.ref d),some (T.ref a),some (T.ref o),some (T.int lots),none,none,none,none,none,none] from rfl]
  have hsz : sizeLine = 16777216:=rfl
  have k':=Box.mk k
  clear k
  have w0 : Wt d H3 H3 []:=⟨hC,Kep.refl,(fun _ h => nomatch h)⟩
  have w0 : Wt d H3 H3 [(a,.lst (ws.map T.str))]:=⟨hC,Kep.refl,fun q hq => by rw [List.mem_singleton.mp hq]; exact ⟨ha,nad⟩⟩
  clear hC
  have rg : rng3 0 ws.length = (List.range ws.length).map fun (i : Nat) => T.int (i : Int):=rng_0 _
  refine seq_cut fun R0 hR0 => ?_
  walk_at "rd"
  walk_at "nx"
  refine seq_cut fun R1 hR1 => ?_
  walk_at "rd"
  refine ⟨by omega,fun pp hpp => ?_⟩
  have pp0:=w0.fresh hpp
  have npa : a ≠ pp:=ne3n ha hpp
  have npo : o ≠ pp:=ne3n ho hpp
  have w1:=w0.new (o:=.lst []) hpp
  have ho1 : up3 H3 pp (.lst []) o = some (.lst es):=by rw [up3_ne npo]; exact ho
  generalize up3 H3 pp (.lst []) = H4 at w1 ho1
  clear w0 hpp ha
  walk_at "nx"
  refine seq_cut fun R2 hR2 => ?_
  walk_at "rd"
  intro pe hpe
  have w2:=w1.new (o:=.lst es) hpe
  have pe0:=w1.fresh hpe
  have npe : pp ≠ pe:=ne3n w1.hd hpe
  have nae : a ≠ pe:=ne3n w1.tl.hd hpe
  generalize up3 H4 pe (.lst es) = H5 at w2
  clear w1 hpe ho1
  walk_at "nx"
  have pi0 : PI d H3 H5 pp pe a ws [] es:=⟨⟨w2.cl,w2.kp,fun q hq => w2.at' q (by simp only [List.mem_cons,List.not_mem_nil,or_false] at hq ⊢; rcases hq with h | h | h; exact .inr (.inl h); exact .inl h; exact .inr (.inr h))⟩,Ne.symm npe,npa,by decide,hes,by simp; omega,(fun _ h => nomatch h)⟩
  clear w2 pe0 npe nae
  refine seq_cut fun R3 hR3 => ?_
  walk_at "rd"
  refine ⟨trivial,by omega,by omega,?_⟩
  try rw [rg]
  refine iter_pre (fun (i : Nat) => T.int (i : Int)) (List.range ws.length) (fun A σ H => ∃ (ps : List (Bool × Nat × Nat)) (es : List T) (pe : Addr) (v7 v8 : Option T),σ = [some (.ref d),some (.ref a),some (.ref o),some (.int lots),some (.int (ws.length : Int)),some (.ref pp),some (.ref pe),v7,v8,none] /\ PI d H3 H pp pe a ws ps es /\ ps.Sublist (enm true ws.length A)) ⟨[],es,pe,_,_,rfl,pi0,List.Sublist.refl _⟩ ?_ ?_
  rotate_left
  ·
   rintro A i B σ H N e ⟨ps,es,pe,v7,v8,rfl,pi,hsub⟩ hN
   refine ⟨trivial,?_⟩
   have hi : i < ws.length:=List.mem_range.mp (by rw [e]; simp)
   have hM:=Box.mk hN
   clear hN e pi0 k' hR3
   walk_at "rd"
   refine ⟨trivial,by omega,by omega,?_⟩
   try rw [rg]
   refine iter_pre (fun (i : Nat) => T.int (i : Int)) (List.range ws.length) (fun A2 σ H => ∃ (ps : List (Bool × Nat × Nat)) (es : List T) (pe : Addr) (v8 : Option T),σ = [some (.ref d),some (.ref a),some (.ref o),some (.int lots),some (.int (ws.length : Int)),some (.ref pp),some (.ref pe),some (.int (i : Int)),v8,none] /\ PI d H3 H pp pe a ws ps es /\ ps.Sublist (enm true ws.length A ++ A2.map fun j => (true,i,j))) ⟨ps,es,pe,_,rfl,pi,by rw [List.map_nil,List.append_nil]; exact hsub⟩ ?_ ?_
   ·
    rintro σ H ⟨ps,es,pe,v8,rfl,pi,hsub⟩
    exact ⟨trivial,hM.out _ _ ⟨ps,es,pe,_,_,rfl,pi,by rw [enm_snoc]; exact hsub⟩⟩
   ·
    rintro A2 j B2 σ H N2 e2 ⟨ps,es,pe,v8,rfl,pi,hsub⟩ hN2
    refine ⟨trivial,?_⟩
    have hj : j < ws.length:=List.mem_range.mp (by rw [e2]; simp)
    have hN':=Box.mk hN2
    have hs1:=sub_go (y:=(true,i,j)) hsub
    have hs2:=sub_st (y:=(true,i,j)) hsub
    rw [List.append_assoc,show [(true,i,j)] = [j].map fun j => (true,i,j) from rfl,<- List.map_append] at hs1 hs2
    clear hN2 e2 hM rg hsub
    walk_at "rd"
    by_cases hij : (i : Int) = (j : Int)
    ·
     rw [decide_eq_true hij]
     simp only [Bool.not_true,Bool.false_eq_true,if_false]
     exact hN'.out _ _ ⟨ps,es,pe,_,rfl,pi,hs2⟩
    ·
     rw [decide_eq_false hij]
     simp only [Bool.not_false,if_true]
     refine ⟨.inl ⟨by decide,by decide⟩,d,_,rfl,by omega,pi.w.cl,fun n H6 n0 n1 hD => ?_⟩
     have pi2:=pi.drw hD
     clear pi hD
     have g1:=pi2.w.hd
     have g2:=pi2.w.tl.hd
     walk_at "rd"
     have stay:=Box.mk (hN'.out [some (.ref d),some (.ref a),some (.ref o),some (.int lots),some (.int (ws.length : Int)),some (.ref pp),some (.ref pe),some (.int (i : Int)),some (.int (j : Int)),none] H6 ⟨ps,es,pe,_,rfl,pi2,hs2⟩)
     split
     ·
      split
      ·
       rename_i h12
       have h12' : ps.length < 12:=by have:=of_decide_eq_true h12; omega
       have el:=pi2.el
       have e1 : ps.map pT3 ++ [T.tup [T.str (Str.ofString "with"),T.int (i : Int),T.int (j : Int)]] = (ps ++ [(true,i,j)]).map pT3:=by rw [List.map_append]; rfl
       rw [e1]
       refine ⟨⟨trivial,trivial⟩,by decide,by omega,by decide,by decide,by decide,fun q0 hq0 => ?_⟩
       have gpe : up3 H6 pp (.lst ((ps ++ [(true,i,j)]).map pT3)) pe = some (.lst es):=by rw [up3_ne pi2.ne]; exact g2
       rw [up3_ne (ne3n gpe hq0),gpe,q_catH]
       refine ⟨by rw [List.length_cons,List.length_cons,List.length_nil]; omega,fun q hq => ?_⟩
       exact hN'.out _ _ ⟨ps ++ [(true,i,j)],es ++ [T.tup [T.int (i : Int),T.int (j : Int)],T.tup [T.int (j : Int),T.int (i : Int)]],q,_,rfl,pi2.add pp0 h12' ⟨fun h => hij (by have : i = j:=h; rw [this]),hi,hj⟩ hq0 hq rfl rfl,hs1⟩
      ·
       first | exact stay.out | trivial
     ·
      first | exact stay.out | trivial
  rintro σ H ⟨ps,es,pe,v7,v8,rfl,pi,hsub⟩
  refine ⟨trivial,?_⟩
  clear pi0
  walk_at "nx"
  refine seq_cut fun R4 hR4 => ?_
  have gpe:=pi.w.tl.hd
  walk_at "rd"
  refine ⟨ws.length,pe,es,rfl,w8,gpe,pi.ea,fun pt as H7 tb => ?_⟩
  have tq : Tq d H3 H7 pt ws.length as:=tb.tq pi.w.cl pi.w.kp
  have npt : pt ≠ pp:=Ne.symm (ne3n pi.w.hd tb.f0)
  have nas : ∀ x ∈ as,x ≠ pp:=fun x hx => Ne.symm (ne3n pi.w.hd (tb.fa x hx))
  have pi1:=pi.sub tb.sb
  clear pi tb gpe
  walk_at "nx"
  refine seq_cut fun R5 hR5 => ?_
  walk_at "rd"
  refine ⟨trivial,by omega,by omega,?_⟩
  try rw [rg]
  refine iter_pre (fun (i : Nat) => T.int (i : Int)) (List.range ws.length) (fun A σ H => ∃ (ps : List (Bool × Nat × Nat)) (v7 v8 : Option T),σ = [some (.ref d),some (.ref a),some (.ref o),some (.int lots),some (.int (ws.length : Int)),some (.ref pp),some (.ref pe),v7,v8,some (.ref pt)] /\ PI d H3 H pp pe a ws ps es /\ Tq d H3 H pt ws.length as /\ ps.Sublist (enm true ws.length (List.range ws.length) ++ enm false ws.length A)) ⟨ps,_,_,rfl,pi1,tq,by rw [show enm false ws.length [] = [] from rfl,List.append_nil]; exact hsub⟩ ?_ ?_
  rotate_left
  ·
   rintro A i B σ H N e ⟨ps,v7,v8,rfl,pi,tq,hsub⟩ hN
   refine ⟨trivial,?_⟩
   have hi : i < ws.length:=List.mem_range.mp (by rw [e]; simp)
   have hM:=Box.mk hN
   clear hN e pi1 k' hR5
   walk_at "rd"
   refine ⟨trivial,by omega,by omega,?_⟩
   try rw [rg]
   refine iter_pre (fun (i : Nat) => T.int (i : Int)) (List.range ws.length) (fun A2 σ H => ∃ (ps : List (Bool × Nat × Nat)) (v8 : Option T),σ = [some (.ref d),some (.ref a),some (.ref o),some (.int lots),some (.int (ws.length : Int)),some (.ref pp),some (.ref pe),some (.int (i : Int)),v8,some (.ref pt)] /\ PI d H3 H pp pe a ws ps es /\ Tq d H3 H pt ws.length as /\ ps.Sublist (enm true ws.length (List.range ws.length) ++ enm false ws.length A ++ A2.map fun j => (false,i,j))) ⟨ps,_,rfl,pi,tq,by rw [List.map_nil,List.append_nil]; exact hsub⟩ ?_ ?_
   ·
    rintro σ H ⟨ps,v8,rfl,pi,tq,hsub⟩
    exact ⟨trivial,hM.out _ _ ⟨ps,_,_,rfl,pi,tq,by rw [enm_snoc,<- List.append_assoc]; exact hsub⟩⟩
   ·
    rintro A2 j B2 σ H N2 e2 ⟨ps,v8,rfl,pi,tq,hsub⟩ hN2
    refine ⟨trivial,?_⟩
    have hj : j < ws.length:=List.mem_range.mp (by rw [e2]; simp)
    have hN':=Box.mk hN2
    have hs1:=sub_go (y:=(false,i,j)) hsub
    have hs2:=sub_st (y:=(false,i,j)) hsub
    rw [List.append_assoc (_ ++ _),show [(false,i,j)] = [j].map fun j => (false,i,j) from rfl,<- List.map_append] at hs1 hs2
    clear hN2 e2 hM rg hsub
    walk_at "rd"
    by_cases hij : (i : Int) = (j : Int)
    ·
     rw [decide_eq_true hij]
     simp only [Bool.not_true,Bool.false_eq_true,if_false]
     exact hN'.out _ _ ⟨ps,_,rfl,pi,tq,hs2⟩
    ·
     rw [decide_eq_false hij]
     simp only [Bool.not_false,if_true]
     refine ⟨d,_,rfl,by omega,pi.w.cl,fun n H6 n0 n1 hD => ?_⟩
     have pi2:=pi.drw hD
     have tq2:=tq.drw hD
     clear pi hD tq
     have g1:=pi2.w.hd
     have gt:=tq2.t
     obtain ⟨ri,bi,gi,hri,li,gri⟩:=tq2.at' hi
     obtain ⟨rj,bj,gj,hrj,lj,grj⟩:=tq2.at' hj
     obtain ⟨x1,gx1⟩:=bl_at (show j < bi.length by omega)
     obtain ⟨x2,gx2⟩:=bl_at (show i < bj.length by omega)
     clear li lj
     have stay:=Box.mk (hN'.out [some (.ref d),some (.ref a),some (.ref o),some (.int lots),some (.int (ws.length : Int)),some (.ref pp),some (.ref pe),some (.int (i : Int)),some (.int (j : Int)),some (.ref pt)] H6 ⟨ps,_,rfl,pi2,tq2,hs2⟩)
     have e1 : ps.map pT3 ++ [T.tup [T.str (Str.ofString "apart"),T.int (i : Int),T.int (j : Int)]] = (ps ++ [(false,i,j)]).map pT3:=by rw [List.map_append]; rfl
     have go : decide ((ps.length : Int) < 12) = true -> N2 [some (.ref d),some (.ref a),some (.ref o),some (.int lots),some (.int (ws.length : Int)),some (.ref pp),some (.ref pe),some (.int (i : Int)),some (.int (j : Int)),some (.ref pt)] (up3 H6 pp (O3.lst (List.map pT3 ps ++ [T.tup [T.str (Str.ofString "apart"),T.int (i : Int),T.int (j : Int)]]))):=fun h12 => by
      rw [e1]
      exact hN'.out _ _ ⟨ps ++ [(false,i,j)],_,rfl,pi2.add1 pp0 (by have:=of_decide_eq_true h12; omega) ⟨fun h => hij (by have : i = j:=h; rw [this]),hi,hj⟩,tq2.set npt nas,hs1⟩
     have go':=Box.mk go
     have l12:=pi2.l12
     clear go e1
     walk_at "rd"
     repeat' split
     all_goals first | exact stay.out | exact ⟨⟨trivial,trivial⟩,by decide,by omega,go'.out (by assumption)⟩ | trivial
  rintro σ H ⟨ps,v7,v8,rfl,pi,tq,hsub⟩
  refine ⟨trivial,?_⟩
  clear pi1
  walk_at "nx"
  refine seq_cut fun R6 hR6 => ?_
  have g1:=pi.w.hd
  have l12:=pi.l12
  walk_at "rd"
  refine ⟨d,pp,ps.map pT3,rfl,(pi.w.at' _ List.mem_cons_self).2,g1,pl_T3 ps,by rw [List.length_map]; omega,pi.w.cl,fun ys H8 q hperm hD hq => ?_⟩
  obtain ⟨ps',hp',rfl⟩:=perm_inv hperm ps rfl
  have nd' : ps'.Nodup:=(hp'.nodup_iff).mpr ((full_nd ⟨ws.length,by omega⟩).sublist hsub)
  have ok' : ∀ x ∈ ps',x.2.1 ≠ x.2.2 /\ x.2.1 < ws.length /\ x.2.2 < ws.length:=fun x hx => pi.ok x (hp'.mem_iff.mp hx)
  have l12' : ps'.length <= 12:=by rw [hp'.length_eq]; exact l12
  have w9:=(pi.w.drw hD).tl.tl.new (o:=.lst (ps'.map pT3)) hq
  have tq9:=(tq.drw hD).new (o:=.lst (ps'.map pT3)) hq
  generalize up3 H8 q (.lst (ps'.map pT3)) = H9 at w9 tq9
  clear hD hq pi tq hperm hp' hsub g1 l12 rg
  walk_at "nx"
  have gq:=w9.hd
  have gA:=w9.tl.hd
  try dsimp only
  walk_at "rd"
  walk_at "cp"
  refine cIter_f3 (fun x : Bool × Nat × Nat => .str (bw x.1)) (fun x => .int (x.2.1 : Int)) (fun x => .int (x.2.2 : Int)) (fun x => prT (nmP ws x)) (fun _ => true) ps' [some (.ref a)] (.inl gq) (by omega) (fun x hx Q' hq => hq) (fun x hx _ Q' hq => ?_) (fun p hp => ?_)
  ·
   have o:=ok' x hx
   have a1:=getD_at o.2.1
   have a2:=getD_at o.2.2
   have hq':=Box.mk hq
   clear k' hq
   walk_at "rd"
   exact ⟨by decide,hq'.out⟩
  ·
   rw [show ps'.filter (fun _ => true) = ps' from List.filter_eq_self.mpr fun _ _ => rfl] at *
   rw [show ps'.map (fun x => prT (nmP ws x)) = (ps'.map (nmP ws)).map prT by rw [List.map_map]; rfl]
   have w10:=w9.new (o:=.lst ((ps'.map (nmP ws)).map prT)) hp
   have tq10:=tq9.new (o:=.lst ((ps'.map (nmP ws)).map prT)) hp
   generalize up3 H9 p (.lst ((ps'.map (nmP ws)).map prT)) = H10 at w10 tq10
   walk_at "rd"
   exact ⟨by decide,Fin3.of Sub3.refl (k'.out (ps'.map (nmP ws)) pt as H10 (by rw [List.length_map]; exact l12') (nmP_nd hws.nd nd' ok') (fun x hx => by obtain ⟨y,hy,rfl⟩:=List.mem_map.mp hx; exact nmP_ok hws.nd (ok' y hy)) w10.cl w10.kp tq10)⟩
abbrev N_free_name : List Str:=["_law_size","_law_number","_law_names_here","_law_letters","_law_found","_law_turn_here","_law_left","_law_name","_law_k"]
theorem sc_free_name : FnScope N_free_name ["_law_size","_law_number","_law_names_here"] (defScope (top 23)):=sc_mk
theorem ok_free_name {f : Addr} {fd : FuncData} (g : G3 K mg "_law_free_name" (top 23) ["_law_size","_law_number","_law_names_here"] f fd) (B : Bl mg) : Cal P w K mg base 1 "_law_free_name" (top 23) ["_law_size","_law_number","_law_names_here"] spFn:=by
 refine ⟨f,fd,g,?_⟩
 refine fn3 g.fn sc_free_name (fun ts H Q h => ?_) (fun cdv A outer s H E ts H3 Q hr h => ?_)
 ·
  obtain ⟨sz,num,a,ws,rfl,_⟩:=h; rfl
 ·
  have hu30:=Room.u30 hr
  have hu31:=Room.u31 hr
  have hu1:=Room.u1 hr
  obtain ⟨sz,num,a,ws,rfl,s1,s8,ha,hl,k⟩:=h
  refine ⟨_,(ss3_cons (s3_set (i:=3) sc_free_name.nd c3_str)
    (ss3_cons (s3_set (i:=4) sc_free_name.nd c3_str)
    (ss3_cons (s3_for PassesOwn.never rfl (i3_range1 rfl B.range_ (a3_cons (e3_op o3_add (e3_callB c3_len rfl B.len_ bt_len (a3_cons (v3 2) a3_nil)) c3_int) a3_nil)) (g3_name (i:=5) sc_free_name.nd) (ss3_cons (s3_set (i:=6) sc_free_name.nd (e3_op o3_add (v3 1) (v3 5)))
     (ss3_cons (s3_set (i:=7) sc_free_name.nd c3_str)
     (ss3_cons (s3_for PassesOwn.never rfl (i3_range1 rfl B.range_ (a3_cons (v3 0) a3_nil)) (g3_name (i:=8) sc_free_name.nd) (ss3_cons (s3_set (i:=7) sc_free_name.nd (e3_op o3_add (v3 7) (e3_ix ix3 (v3 3) (e3_op o3_mod (v3 6) c3_int))))
      (ss3_one (s3_set (i:=6) sc_free_name.nd (e3_op o3_fdiv (v3 6) c3_int)))))
     (ss3_one (s3_if (PW3.pt (w3_and (t3_cmp (o3_eq hu30) (v3 4) c3_str) (w3_and1 (t3_cmp (o3_notin hu31) (v3 7) (v3 2) rfl)))) (ss3_one (s3_set (i:=4) sc_free_name.nd (v3 7))) ss3_nil))))))
    (ss3_one (s3_ret (v3 4)))))),?_⟩
  rw [show start3 N_free_name [T.int (sz : Int),T.int num,T.ref a] = [some (T.int (sz : Int)),some (T.int num),some (T.ref a),none,none,none,none,none,none] from rfl]
  have hsz : sizeLine = 16777216:=rfl
  have al : (mkS abcL).length <= sizeLine:=by rw [mkS_len]; decide
  have k':=Box.mk k
  clear k
  have e0 : ("" : Str) = mkS []:=by decide +kernel
  refine seq_cut fun R0 hR0 => ?_
  walk_at "rd"
  simp only [abc_eq]
  walk_at "nx"
  refine seq_cut fun R1 hR1 => ?_
  walk_at "rd"
  walk_at "nx"
  refine seq_cut fun R2 hR2 => ?_
  walk_at "rd"
  refine ⟨by first | trivial | omega,by omega,by omega,?_⟩
  rw [show rng3 0 ((ws.length : Int) + 1).toNat = (List.range (ws.length + 1)).map (fun (i : Nat) => T.int (i : Int)) by rw [show ((ws.length : Int) + 1).toNat = ws.length + 1 by omega]; exact rng_0 _]
  refine iter_pre (fun (i : Nat) => T.int (i : Int)) (List.range (ws.length + 1)) (fun A σ H => ∃ (fo : Str) (v5 v6 v7 v8 : Option T),σ = [some (.int (sz : Int)),some (.int num),some (.ref a),some (.str (mkS abcL)),some (.str fo),v5,v6,v7,v8] /\ H3 = H /\ ((fo = "" /\ ∀ i ∈ A,mkS (dg sz (num + i)) ∈ ws) \/ (isNm fo /\ fo ∉ ws))) ⟨"",_,_,_,_,rfl,rfl,.inl ⟨rfl,(fun _ h => nomatch h)⟩⟩ ?_ ?_
  ·
   rintro σ H ⟨fo,v5,v6,v7,v8,rfl,rfl,hfo⟩
   refine ⟨trivial,?_⟩
   walk_at "nx"
   walk_at "rd"
   rcases hfo with ⟨_,hall⟩ | ⟨h1,h2⟩
   ·
    exfalso
    obtain ⟨n,rfl⟩ : ∃ n,sz = n + 1:=⟨sz - 1,by omega⟩
    exact pig ws (fun i => mkS (dg (n + 1) (num + i))) (fun i j hi hj h => dg_inj (by omega) (by omega) h) fun i hi => hall i (List.mem_range.mpr (by omega))
   ·
    exact Fin3.of Sub3.refl (k'.out fo h1 h2)
  ·
   rintro A i B σ H N e ⟨fo,v5,v6,v7,v8,rfl,rfl,hfo⟩ hN
   refine ⟨trivial,?_⟩
   have hN':=Box.mk hN
   have hfo':=Box.mk hfo
   clear hN hfo e k' hR2
   refine seq_cut fun R3 hR3 => ?_
   walk_at "rd"
   walk_at "nx"
   refine seq_cut fun R4 hR4 => ?_
   walk_at "rd"
   walk_at "nx"
   refine seq_cut fun R5 hR5 => ?_
   walk_at "rd"
   refine ⟨by first | trivial | omega,by omega,by omega,?_⟩
   have hrl : (rng3 0 sz).length = sz:=by unfold rng3; rw [List.length_map,List.length_range]
   generalize rng3 0 sz = ts0 at hrl
   try rw [e0]
   refine iter_go (fun r σ H => ∃ (pre : List Nat) (lf : Int) (v8 : Option T),σ = [some (.int (sz : Int)),some (.int num),some (.ref a),some (.str (mkS abcL)),some (.str fo),some (.int (i : Int)),some (.int lf),some (.str (mkS pre)),v8] /\ pre ++ dg r.length lf = dg sz (num + i) /\ pre.length + r.length = sz /\ H3 = H) ⟨[],num + i,_,rfl,by rw [hrl]; rfl,by rw [hrl]; exact Nat.zero_add _,rfl⟩ ?_ ?_
   ·
    rintro σ H ⟨pre,lf,v8,rfl,hpre,hpl,rfl⟩
    refine ⟨trivial,?_⟩
    rw [List.length_nil,dg,List.append_nil] at hpre
    subst hpre
    walk_at "nx"
    walk_at "rd"
    have nmx : isNm (mkS (dg sz (num + (i : Int)))):=nm_mk (by rw [dg_len]; omega) (by rw [dg_len]; omega) (dg_az _ _)
    by_cases q : fo = mkS []
    ·
     rw [decide_eq_true q,if_pos rfl]
     refine ⟨rfl,pl_strs ws,?_⟩
     split
     ·
      rename_i hm
      exact hN'.out _ _ ⟨_,_,_,_,_,rfl,rfl,.inr ⟨nmx,(memN str_inj (x:=mkS (dg sz (num + (i : Int))))).mp hm⟩⟩
     ·
      rename_i hm
      have hin : mkS (dg sz (num + (i : Int))) ∈ ws:=Classical.byContradiction fun h => hm ((memN str_inj).mpr h)
      rcases hfo'.out with ⟨_,hall⟩ | h
      ·
       exact hN'.out _ _ ⟨fo,_,_,_,_,rfl,rfl,.inl ⟨q.trans e0.symm,fun j hj => by
        rcases List.mem_append.mp hj with hj | hj
        ·
         exact hall j hj
        ·
         rw [List.mem_singleton.mp hj]; exact hin⟩⟩
      ·
       exact hN'.out _ _ ⟨fo,_,_,_,_,rfl,rfl,.inr h⟩
    ·
     rw [decide_eq_false q,if_neg Bool.false_ne_true]
     rcases hfo'.out with ⟨h,_⟩ | h
     ·
      exact absurd (h.trans e0) q
     ·
      exact hN'.out _ _ ⟨fo,_,_,_,_,rfl,rfl,.inr h⟩
   ·
    rintro x r σ H N2 ⟨pre,lf,v8,rfl,hpre,hpl,rfl⟩ hN2
    refine ⟨trivial,?_⟩
    rw [List.length_cons] at hpre hpl
    rw [dg] at hpre
    have hM:=Box.mk hN2
    have hpre':=Box.mk hpre
    have hpl' : pre.length < 8:=by omega
    have hpl2:=Box.mk hpl
    have hch:=abc_at (lf % 26) (Int.emod_nonneg _ (by decide)) (Int.emod_lt_of_pos _ (by decide))
    clear hN2 hN' hfo' hR5 hpre hpl
    walk_at "rd"
    simp only [mkS_cps,hch,q_oq]
    walk_at "rd"
    rw [show (⟨#[97 + (lf % 26).toNat]⟩ : Str) = mkS [97 + (lf % 26).toNat] from rfl]
    refine ⟨by decide,al,by rw [mkS_len,mkS_len]; simp only [List.length_singleton]; omega,⟨by decide,by decide +kernel⟩,?_⟩
    rw [mkS_app]
    exact hM.out _ _ ⟨_,_,_,rfl,by rw [List.append_assoc]; exact hpre'.out,by rw [List.length_append,List.length_singleton]; have:=hpl2.out; omega,rfl⟩
abbrev N_names : List Str:=["_law_deck","_law_many","_law_letters","_law_found","_law_k","_law_base","_law_at_here","_law_spot"]
theorem sc_names : FnScope N_names ["_law_deck","_law_many"] (defScope (top 24)):=sc_mk
theorem ok_names {f : Addr} {fd : FuncData} (g : G3 K mg "_law_names" (top 24) ["_law_deck","_law_many"] f fd) (B : Bl mg) (F_draw : Cal P w K mg base 1 "_law_draw" (top 21) ["_law_deck","_law_most"] spDr) (F_free_name : Cal P w K mg base 1 "_law_free_name" (top 23) ["_law_size","_law_number","_law_names_here"] spFn) : Cal P w K mg base 2 "_law_names" (top 24) ["_law_deck","_law_many"] spNa:=by
 refine ⟨f,fd,g,?_⟩
 refine fn3 g.fn sc_names (fun ts H Q h => ?_) (fun cdv A outer s H E ts H3 Q hr h => ?_)
 ·
  obtain ⟨d,m,rfl,_⟩:=h; rfl
 ·
  have hu30:=Room.u30 hr
  have hu31:=Room.u31 hr
  have hu1:=Room.u1 hr
  obtain ⟨d,m,rfl,m1,m8,hC,k⟩:=h
  refine ⟨_,(ss3_cons (s3_set (i:=2) sc_names.nd c3_str)
    (ss3_cons (s3_set (i:=3) sc_names.nd (e3_lst a3_nil))
    (ss3_cons (s3_if (t3_cmp o3_gt (e3_cl F_draw hr rfl (a3_cons (v3 0) (a3_cons c3_int a3_nil))) c3_int) (ss3_cons (s3_for PassesOwn.never rfl (i3_range1 rfl B.range_ (a3_cons (v3 1) a3_nil)) (g3_name (i:=4) sc_names.nd) (ss3_one (s3_expr (e3_bm PySem.F.plainAttrs_list PySem.F.slot_list_append PySem.F.type_list_append m3_append (v3 3) (a3_cons (e3_cl F_free_name hr rfl (a3_cons (e3_op o3_add c3_int (e3_cl F_draw hr rfl (a3_cons (v3 0) (a3_cons c3_int a3_nil)))) (a3_cons (e3_cl F_draw hr rfl (a3_cons (v3 0) (a3_cons (e3_op o3_pow c3_int c3_int) a3_nil))) (a3_cons (v3 3) a3_nil)))) a3_nil)))))
     (ss3_one (s3_ret (v3 3)))) ss3_nil)
    (ss3_cons (s3_set (i:=5) sc_names.nd (e3_cl F_free_name hr rfl (a3_cons (e3_op o3_add c3_int (e3_cl F_draw hr rfl (a3_cons (v3 0) (a3_cons c3_int a3_nil)))) (a3_cons (e3_cl F_draw hr rfl (a3_cons (v3 0) (a3_cons (e3_op o3_pow c3_int c3_int) a3_nil))) (a3_cons (e3_lst a3_nil) a3_nil)))))
    (ss3_cons (s3_set (i:=6) sc_names.nd (e3_cl F_draw hr rfl (a3_cons (v3 0) (a3_cons (e3_callB c3_len rfl B.len_ bt_len (a3_cons (v3 5) a3_nil)) a3_nil))))
    (ss3_cons (s3_set (i:=7) sc_names.nd (e3_bm PySem.F.plainAttrs_str PySem.F.slot_str_index PySem.F.type_str_index m3_index (v3 2) (a3_cons (e3_ix ix3 (v3 5) (v3 6)) a3_nil)))
    (ss3_one (s3_ret (e3_comp rfl (compSc (n0:=(defScope (top 24)).names) (N:=N_names) (N':=["_law_k","_law_base","_law_letters","_law_at_here","_law_spot"]) (nt:=1) (cap:=[5,2,6,7]) rfl rfl (by decide +kernel)) (i3_range1 rfl B.range_ (a3_cons (v3 1) a3_nil)) (fun cl pins s H C0 fp => ⟨(g3_name (i:=0) (show List.Nodup [("_law_k" : Str),("_law_base" : Str),("_law_letters" : Str),("_law_at_here" : Str),("_law_spot" : Str)] by decide +kernel)),if3_nil,(e3_op o3_add (e3_op o3_add (e3_slice (v3 1) po3_none (po3_some (v3 3))) (e3_ix ix3 (v3 2) (e3_op o3_mod (e3_op o3_add (v3 4) (v3 0)) c3_int))) (e3_slice (v3 1) (po3_some (e3_op o3_add (v3 3) c3_int)) po3_none))⟩)))))))))),?_⟩
  rw [show start3 N_names [T.ref d,T.int (m : Int)] = [some (T.ref d),some (T.int (m : Int)),none,none,none,none,none,none] from rfl]
  have hsz : sizeLine = 16777216:=rfl
  have al : (mkS abcL).length <= sizeLine:=by rw [mkS_len]; decide
  have k':=Box.mk k
  clear k
  have w0 : Wt d H3 H3 []:=⟨hC,Kep.refl,(fun _ h => nomatch h)⟩
  clear hC
  refine seq_cut fun R0 hR0 => ?_
  walk_at "rd"
  simp only [abc_eq]
  walk_at "nx"
  refine seq_cut fun R1 hR1 => ?_
  walk_at "rd"
  refine ⟨by omega,fun pf hpf => ?_⟩
  have f0:=w0.fresh hpf
  have npd:=w0.cl.ne hpf
  have w1:=w0.new (o:=.lst []) hpf
  generalize up3 H3 pf (.lst []) = H4 at w1
  clear w0 hpf
  walk_at "nx"
  refine seq_cut fun R2 hR2 => ?_
  walk_at "rd"
  refine ⟨d,3,rfl,by decide,w1.cl,fun way H5 y0 y1 hD => ?_⟩
  have w2:=w1.drw hD
  clear w1 hD
  walk_at "rd"
  have rg : rng3 0 m = (List.range m).map fun (i : Nat) => T.int (i : Int):=rng_0 m
  by_cases hw : 0 < way
  ·
   rw [decide_eq_true hw,if_pos rfl]
   clear hR2
   refine ⟨by first | trivial | omega,by omega,by omega,?_⟩
   try rw [rg]
   refine iter_pre (fun (i : Nat) => T.int (i : Int)) (List.range m) (fun A σ H => ∃ (ws : List Str) (v4 : Option T),σ = [some (.ref d),some (.int (m : Int)),some (.str (mkS abcL)),some (.ref pf),v4,none,none,none] /\ Nms ws /\ ws.length = A.length /\ Wt d H3 H [(pf,.lst (ws.map T.str))]) ⟨[],_,rfl,Nms.nil,rfl,w2⟩ ?_ ?_
   ·
    rintro σ H ⟨ws,v4,rfl,hn,hl,w⟩
    refine ⟨trivial,?_⟩
    rw [List.length_range] at hl
    clear w2
    walk_at "rd"
    exact fin_drw2 w.cl w.kp w.hd f0 npd fun H1 hD h1 => k'.out ws H1 pf hl hn hD h1
   ·
    rintro A i B σ H N e ⟨ws,v4,rfl,hn,hl,w⟩ hN
    refine ⟨trivial,?_⟩
    have hA : A.length < 8:=by
     have:=congrArg List.length e
     simp only [List.length_append,List.length_cons,List.length_range] at this
     omega
    have hN':=Box.mk hN
    have g:=w.hd
    clear hN e k' w2
    walk_at "rd"
    refine ⟨⟨trivial,trivial⟩,d,8,rfl,by decide,w.cl,fun n1 H6 p0 p1 hD1 => ?_⟩
    have w3:=w.drw hD1
    clear w g hD1
    walk_at "rd"
    refine ⟨⟨by decide,by decide,by decide⟩,d,_,rfl,by decide,w3.cl,fun n2 H7 q0 q1 hD2 => ?_⟩
    have w4:=w3.drw hD2
    have g4:=w4.hd
    clear w3 hD2
    try dsimp only
    refine ⟨(1 + n1).toNat,n2,pf,ws,by rw [Int.toNat_of_nonneg (by omega)],by omega,by omega,g4,by omega,fun x hx hnx => ?_⟩
    walk_at "rd"
    refine ⟨by omega,hN'.out _ _ ⟨ws ++ [x],_,rfl,hn.snoc hx hnx,by rw [List.length_append,List.length_append,hl]; rfl,?_⟩⟩
    have w5:=w4.set f0 (fun _ h => nomatch h) (.lst (ws.map T.str ++ [T.str x]))
    rw [List.map_append]; exact w5
  ·
   rw [decide_eq_false hw,if_neg Bool.false_ne_true]
   walk_at "nx"
   refine seq_cut fun R3 hR3 => ?_
   walk_at "rd"
   refine ⟨d,8,rfl,by decide,w2.cl,fun n1 H6 p0 p1 hD1 => ?_⟩
   have w3:=w2.drw hD1
   clear w2 hD1
   walk_at "rd"
   refine ⟨⟨by decide,by decide,by decide⟩,d,_,rfl,by decide,w3.cl,fun n2 H7 q0 q1 hD2 => ?_⟩
   have w4:=w3.drw hD2
   clear w3 hD2
   refine ⟨by omega,fun pe hpe => ?_⟩
   have w5:=w4.new (o:=.lst []) hpe
   have ge:=w5.hd
   generalize up3 H7 pe (.lst []) = H8 at w5 ge
   clear w4 hpe
   refine ⟨(1 + n1).toNat,n2,pe,[],by rw [Int.toNat_of_nonneg (by omega)],by omega,by omega,ge,by decide,fun x hx _ => ?_⟩
   have w6:=w5.tl
   clear w5 ge
   obtain ⟨l,rfl⟩:=mkS_of x
   have e1:=hx.lo
   have e2:=hx.hi
   have e3:=hx.az
   rw [mkS_len] at e1 e2
   rw [mkS_cps] at e3
   have ml:=mkS_len l
   walk_at "nx"
   refine seq_cut fun R4 hR4 => ?_
   walk_at "rd"
   refine ⟨by first | trivial | omega,d,_,rfl,by omega,w6.cl,fun n3 H9 r0 r1 hD3 => ?_⟩
   have w7:=w6.drw hD3
   clear w6 hD3
   obtain ⟨at',rfl⟩ : ∃ at' : Nat,n3 = (at' : Int):=⟨n3.toNat,by omega⟩
   have hat : at' < l.length:=by omega
   walk_at "nx"
   refine seq_cut fun R5 hR5 => ?_
   have ga : atI l (at' : Int) = some l[at']:=atI_nat (List.getElem?_eq_getElem hat)
   have gz:=e3 _ (List.getElem_mem hat)
   generalize l[at'] = ch at ga gz
   have hix:=abc_ix ch gz.1 gz.2
   walk_at "rd"
   refine ⟨trivial,by omega,?_⟩
   rw [mkS_cps,ga,q_oq,show (⟨#[ch]⟩ : Str) = mkS [ch] from rfl,hix]
   clear ga hix
   walk_at "rd"
   walk_at "nx"
   walk_at "rd"
   refine ⟨by first | trivial | omega,by omega,by omega,?_⟩
   try rw [rg]
   walk_at "cp"
   refine cIter_pure (fun (i : Nat) => T.int (i : Int)) (fun i => .str (nmK l at' (ch - 97) i)) (List.range m) [some (.str (mkS l)),some (.str (mkS abcL)),some (.int (at' : Int)),some (.int ((ch - 97 : Nat) : Int))] trivial (by rw [List.length_range]; omega) (fun i hi Q' hq => ?_) (fun p hp => ?_)
   ·
    have hch:=abc_at ((((ch - 97 : Nat) : Int) + (i : Int)) % 26) (Int.emod_nonneg _ (by decide)) (Int.emod_lt_of_pos _ (by decide))
    have st:=sl_to l at' (by omega)
    have sf:=sl_from l (at' + 1) (by omega)
    rw [show ((at' + 1 : Nat) : Int) = (at' : Int) + 1 by omega] at sf
    have hq':=Box.mk hq
    clear k' hq rg
    walk_at "rd"
    refine ⟨by omega,by decide,by rw [mkS_len]; decide,?_⟩
    rw [mkS_cps,hch,q_oq,show (⟨#[97 + ((((ch - 97 : Nat) : Int) + (i : Int)) % 26).toNat]⟩ : Str) = mkS [97 + ((((ch - 97 : Nat) : Int) + (i : Int)) % 26).toNat] from rfl]
    rw [mkS_app,mkS_app]
    simp only [mkS_len,List.length_append,List.length_take,List.length_drop,List.length_singleton]
    exact ⟨by omega,by omega,by omega,hq'.out⟩
   ·
    have el : (List.range m).map (fun i => T.str (nmK l at' (ch - 97) i)) = ((List.range m).map (nmK l at' (ch - 97))).map T.str:=by rw [List.map_map]; rfl
    rw [el]
    have w8:=w7.new (o:=.lst (((List.range m).map (nmK l at' (ch - 97))).map T.str)) hp
    exact fin_drw2 w8.cl w8.kp w8.hd (w7.fresh hp) (w7.cl.ne hp) fun H1 hD h1 => k'.out _ H1 p (by rw [List.length_map,List.length_range]) (nmK_all e2 hat e3 m8) hD h1
abbrev N_lengths : List Str:=["_law_deck","_law_many","_law_way","_law_base"]
theorem sc_lengths : FnScope N_lengths ["_law_deck","_law_many"] (defScope (top 26)):=sc_mk
theorem ok_lengths {f : Addr} {fd : FuncData} (g : G3 K mg "_law_lengths" (top 26) ["_law_deck","_law_many"] f fd) (B : Bl mg) (F_draw : Cal P w K mg base 1 "_law_draw" (top 21) ["_law_deck","_law_most"] spDr) (F_great : Cal P w K mg base 2 "_law_great" (top 22) ["_law_deck","_law_most"] spGr) : Cal P w K mg base 3 "_law_lengths" (top 26) ["_law_deck","_law_many"] spLg:=by
 refine ⟨f,fd,g,?_⟩
 refine fn3 g.fn sc_lengths (fun ts H Q h => ?_) (fun cdv A outer s H E ts H3 Q hr h => ?_)
 ·
  obtain ⟨d,m,rfl,_⟩:=h; rfl
 ·
  have hu30:=Room.u30 hr
  have hu31:=Room.u31 hr
  have hu1:=Room.u1 hr
  obtain ⟨d,m,rfl,hm,hC,k⟩:=h
  refine ⟨_,(ss3_cons (s3_set (i:=2) sc_lengths.nd (e3_cl F_draw hr rfl (a3_cons (v3 0) (a3_cons c3_int a3_nil))))
    (ss3_cons (s3_if (t3_cmp (o3_eq hu30) (v3 2) c3_int) (ss3_one (s3_ret (e3_comp rfl (compSc (n0:=(defScope (top 26)).names) (N:=N_lengths) (N':=["_law_k","_law_deck"]) (nt:=1) (cap:=[0]) rfl rfl (by decide +kernel)) (i3_range1 rfl B.range_ (a3_cons (v3 1) a3_nil)) (fun cl pins s H C0 fp => ⟨(g3_name (i:=0) (show List.Nodup [("_law_k" : Str),("_law_deck" : Str)] by decide +kernel)),if3_nil,(e3_op o3_add c3_int (e3_cl F_great hr rfl (a3_cons (v3 1) (a3_cons (e3_op o3_sub (e3_op o3_pow c3_int c3_int) c3_int) a3_nil))))⟩)))) ss3_nil)
    (ss3_cons (s3_set (i:=3) sc_lengths.nd (e3_op o3_add c3_int (e3_cl F_great hr rfl (a3_cons (v3 0) (a3_cons (e3_ix ix3 (e3_lst (a3_cons c3_int (a3_cons c3_int (a3_cons (e3_op o3_pow c3_int c3_int) a3_nil)))) (e3_op o3_sub (v3 2) c3_int)) a3_nil)))))
    (ss3_one (s3_ret (e3_comp rfl (compSc (n0:=(defScope (top 26)).names) (N:=N_lengths) (N':=["_law_k","_law_base","_law_deck"]) (nt:=1) (cap:=[3,0]) rfl rfl (by decide +kernel)) (i3_range1 rfl B.range_ (a3_cons (v3 1) a3_nil)) (fun cl pins s H C0 fp => ⟨(g3_name (i:=0) (show List.Nodup [("_law_k" : Str),("_law_base" : Str),("_law_deck" : Str)] by decide +kernel)),if3_nil,(e3_op o3_add (e3_op o3_mul (v3 1) (e3_op o3_add c3_int (e3_cl F_draw hr rfl (a3_cons (v3 2) (a3_cons c3_int a3_nil))))) (e3_op o3_fdiv (e3_cl F_draw hr rfl (a3_cons (v3 2) (a3_cons c3_int a3_nil))) c3_int))⟩))))))),?_⟩
  rw [show start3 N_lengths [T.ref d,T.int (m : Int)] = [some (T.ref d),some (T.int (m : Int)),none,none] from rfl]
  have hsz : sizeLine = 16777216:=rfl
  have k':=Box.mk k
  clear k
  have w0 : Wt d H3 H3 []:=⟨hC,Kep.refl,(fun _ h => nomatch h)⟩
  clear hC
  refine seq_cut fun R0 hR0 => ?_
  walk_at "rd"
  refine ⟨d,4,rfl,by decide,w0.cl,fun way H4 y0 y1 hD => ?_⟩
  have w1:=w0.drw hD
  clear w0 hD
  walk_at "nx"
  refine seq_cut fun R1 hR1 => ?_
  walk_at "rd"
  have rg : rng3 0 m = (List.range m).map fun (i : Nat) => T.int (i : Int):=rng_0 m
  by_cases hw : way = 0
  ·
   rw [decide_eq_true hw,if_pos rfl]
   clear hR1
   refine ⟨trivial,by omega,by omega,?_⟩
   try rw [rg]
   walk_at "cp"
   refine cIter_pre (fun (i : Nat) => T.int (i : Int)) (List.range m) (fun A ys σ H => ∃ (ls : List Int) (v : Option T),σ = [v,some (.ref d)] /\ ys = ls.map T.int /\ ls.length = A.length /\ (∀ l ∈ ls,1 <= l /\ l < 10 ^ 60) /\ Wt d H3 H []) ⟨[],_,rfl,rfl,rfl,(fun _ h => nomatch h),w1⟩ ?_ ?_
   ·
    rintro ys σ H ⟨ls,v,rfl,rfl,hl,hr,w⟩
    rw [List.length_range] at hl
    refine ⟨trivial,by rw [List.length_map]; omega,fun p hp => ?_⟩
    have w2:=w.new (o:=.lst (ls.map T.int)) hp
    exact fin_drw2 w2.cl w2.kp w2.hd (w.fresh hp) (w.cl.ne hp) fun H1 hD h1 => k'.out ls H1 p hl hr hD h1
   ·
    rintro A i B ys σ H N e ⟨ls,v,rfl,rfl,hl,hr,w⟩ hN
    refine ⟨trivial,?_⟩
    have hA : A.length < 8:=by
     have:=congrArg List.length e
     simp only [List.length_append,List.length_cons,List.length_range] at this
     omega
    have hN':=Box.mk hN
    clear hN e k' w1
    walk_at "rd"
    refine ⟨⟨by decide,by decide,by decide⟩,d,_,rfl,by rw [t60]; decide,w.cl,fun n H5 n0 n1 hD => ?_⟩
    rw [t60] at n1
    walk_at "rd"
    refine ⟨by omega,hN'.out _ _ _ ⟨ls ++ [1 + n],_,rfl,by rw [List.map_append]; rfl,by rw [List.length_append,List.length_append,hl]; rfl,fun l hl' => ?_,w.drw hD⟩⟩
    rcases List.mem_append.mp hl' with h | h
    ·
     exact hr l h
    ·
     rw [List.mem_singleton.mp h,t60']
     omega
  ·
   rw [decide_eq_false hw,if_neg Bool.false_ne_true]
   walk_at "nx"
   refine seq_cut fun R2 hR2 => ?_
   walk_at "rd"
   refine ⟨⟨by decide,by decide,by decide⟩,by decide,fun p hp => ?_⟩
   obtain ⟨b,hbm,hb'⟩:=at_ex ([1,9,10 ^ Int.toNat 58] : List Int) (way - 1) (by omega) (by show way - 1 < 3; omega)
   have hb2 : atI [T.int 1,T.int 9,T.int (10 ^ Int.toNat 58)] (way - 1) = some (T.int b):=by
    have:=at_map T.int ([1,9,10 ^ Int.toNat 58] : List Int) (way - 1)
    rw [hb'] at this
    exact this
   have hb0 : 1 <= b /\ b <= 10000000000000000000000000000000000000000000000000000000000:=by
    rw [t58] at hbm
    simp only [List.mem_cons,List.not_mem_nil,or_false] at hbm
    rcases hbm with h | h | h <;> omega
   rw [hb2,q_oq]
   have w2:=(w1.new (o:=.lst [T.int 1,T.int 9,T.int (10 ^ Int.toNat 58)]) hp).tl
   generalize up3 H4 p (.lst [T.int 1,T.int 9,T.int (10 ^ Int.toNat 58)]) = H5 at w2
   clear w1 hp hb2 hb' hbm
   refine ⟨d,b,rfl,by omega,w2.cl,fun n H6 n0 n1 hD => ?_⟩
   have w3:=w2.drw hD
   clear w2 hD
   have u0 : 1 <= 1 + n:=by omega
   have u1 : 1 + n <= 10000000000000000000000000000000000000000000000000000000000:=by omega
   try dsimp only
   walk_at "rd"
   generalize 1 + n = bs at u0 u1
   walk_at "nx"
   walk_at "rd"
   refine ⟨by first | trivial | omega,by omega,by omega,?_⟩
   try rw [rg]
   walk_at "cp"
   refine cIter_pre (fun (i : Nat) => T.int (i : Int)) (List.range m) (fun A ys σ H => ∃ (ls : List Int) (v : Option T),σ = [v,some (.int bs),some (.ref d)] /\ ys = ls.map T.int /\ ls.length = A.length /\ (∀ l ∈ ls,1 <= l /\ l < 10 ^ 60) /\ Wt d H3 H []) ⟨[],_,rfl,rfl,rfl,(fun _ h => nomatch h),w3⟩ ?_ ?_
   ·
    rintro ys σ H ⟨ls,v,rfl,rfl,hl,hr,w⟩
    rw [List.length_range] at hl
    refine ⟨trivial,by rw [List.length_map]; omega,fun p hp => ?_⟩
    have w2:=w.new (o:=.lst (ls.map T.int)) hp
    exact fin_drw2 w2.cl w2.kp w2.hd (w.fresh hp) (w.cl.ne hp) fun H1 hD h1 => k'.out ls H1 p hl hr hD h1
   ·
    rintro A i B ys σ H N e ⟨ls,v,rfl,rfl,hl,hr,w⟩ hN
    refine ⟨trivial,?_⟩
    have hA : A.length < 8:=by
     have:=congrArg List.length e
     simp only [List.length_append,List.length_cons,List.length_range] at this
     omega
    have hN':=Box.mk hN
    clear hN e k' w3
    walk_at "rd"
    refine ⟨d,9,rfl,by decide,w.cl,fun n1 H7 p0 p1 hD1 => ?_⟩
    have w2:=w.drw hD1
    walk_at "rd"
    refine ⟨.inr ⟨by omega,by omega⟩,d,5,rfl,by decide,w2.cl,fun n2 H8 q0 q1 hD2 => ?_⟩
    have w4:=w2.drw hD2
    walk_at "rd"
    refine ⟨⟨by decide,by decide +kernel⟩,by omega,hN'.out _ _ _ ⟨ls ++ [bs * (1 + n1) + n2 / 3],_,rfl,by rw [List.map_append]; rfl,by rw [List.length_append,List.length_append,hl]; rfl,fun l hl' => ?_,w4⟩⟩
    rcases List.mem_append.mp hl' with h | h
    ·
     exact hr l h
    ·
     rw [List.mem_singleton.mp h,t60']
     have m1 : bs * (1 + n1) <= bs * 9:=Int.mul_le_mul_of_nonneg_left (by omega) (by omega)
     have m2 : bs * 1 <= bs * (1 + n1):=Int.mul_le_mul_of_nonneg_left (by omega) (by omega)
     omega
end
end M
namespace M
open PySem PySem.Spec PyProof.Rows L2 L3
noncomputable def dN (ns : List Str) (f : Str -> Nat) : List (Str × T):=ns.map fun n => (n,T.int (f n : Int))
noncomputable def fu (f : Str -> Nat) (n : Str) (v : Nat) : Str -> Nat:=fun x => if x = n then v else f x
theorem dN_look {f : Str -> Nat} {n : Str} : ∀ {ns : List Str},n ∈ ns -> look3 n (dN ns f) = some (T.int (f n : Int))
 | x :: r,h => by
  unfold dN
  rw [List.map_cons]
  unfold look3
  by_cases e : x = n
  ·
   rw [if_pos e,e]
  ·
   rw [if_neg e]
   exact dN_look (ns:=r) ((List.mem_cons.mp h).resolve_left (Ne.symm e))
theorem dN_put {ns : List Str} {f : Str -> Nat} {n : Str} {v : Nat} (h : n ∈ ns) : put3 n (T.int (v : Int)) (dN ns f) = dN ns (fu f n v):=by
 unfold put3 dN
 rw [if_pos (by rw [List.any_eq_true]; exact ⟨(n,T.int (f n : Int)),List.mem_map.mpr ⟨n,h,rfl⟩,by simp⟩),List.map_map]
 refine List.map_congr_left fun x hx => ?_
 show (if x = n then (x,T.int (v : Int)) else (x,T.int (f x : Int))) = (x,T.int ((fu f n v x : Nat) : Int))
 unfold fu
 by_cases e : x = n
 ·
  rw [if_pos e,if_pos e]
 ·
  rw [if_neg e,if_neg e]
theorem dN_new {ns : List Str} {f : Str -> Nat} {n : Str} {v : Nat} (h : n ∉ ns) : put3 n (T.int (v : Int)) (dN ns f) = dN (ns ++ [n]) (fu f n v):=by
 unfold put3 dN
 rw [if_neg (by
  intro e
  rw [List.any_eq_true] at e
  obtain ⟨x,hx,e⟩:=e
  obtain ⟨y,hy,rfl⟩:=List.mem_map.mp hx
  exact h (of_decide_eq_true e ▸ hy)),List.map_append]
 congr 1
 ·
  refine List.map_congr_left fun x hx => ?_
  unfold fu
  rw [if_neg (fun (e : x = n) => h (e ▸ hx))]
 ·
  unfold fu
  rw [List.map_singleton,if_pos rfl]
theorem dN_len (ns : List Str) (f : Str -> Nat) : (dN ns f).length = ns.length:=List.length_map _
noncomputable def mu (m : Nat) (ns : List Str) (f : Str -> Nat) : Nat:=(ns.map fun n => m - f n).sum
theorem mu_le {m : Nat} {f g : Str -> Nat} (h : ∀ n,f n <= g n) : ∀ ns,mu m ns g <= mu m ns f
 | [] => Nat.le_refl _
 | x :: r => by
  have:=mu_le (m:=m) h r
  have:=h x
  unfold mu at *
  rw [List.map_cons,List.map_cons,List.sum_cons,List.sum_cons]
  omega
theorem mu_lt {m : Nat} {f g : Str -> Nat} {x : Str} (h : ∀ n,f n <= g n) (h1 : f x < g x) (h2 : f x < m) : ∀ {ns},x ∈ ns -> mu m ns g + 1 <= mu m ns f
 | y :: r,hx => by
  have a:=mu_le (m:=m) h r
  have b:=h y
  rcases List.mem_cons.mp hx with rfl | hx
  ·
   unfold mu at *
   rw [List.map_cons,List.map_cons,List.sum_cons,List.sum_cons]
   omega
  ·
   have c:=mu_lt h h1 h2 hx
   unfold mu at *
   rw [List.map_cons,List.map_cons,List.sum_cons,List.sum_cons]
   omega
theorem fu_up {f : Str -> Nat} {n : Str} {v : Nat} (h : f n <= v) (x : Str) : f x <= fu f n v x:=by
 unfold fu
 by_cases e : x = n
 ·
  rw [if_pos e,e]; exact h
 ·
  rw [if_neg e]; exact Nat.le_refl _
theorem fu_at {f : Str -> Nat} {n : Str} {v : Nat} : fu f n v n = v:=if_pos rfl
theorem fu_lt {f : Str -> Nat} {n : Str} {v m : Nat} (h : ∀ x,f x < m) (hv : v < m) (x : Str) : fu f n v x < m:=by
 unfold fu
 by_cases e : x = n
 ·
  rw [if_pos e]; exact hv
 ·
  rw [if_neg e]; exact h x
theorem Wt.swap3 {c p q r : Addr} {H0 H : Hp3} {o u v : O3} (w : Wt c H0 H [(p,o),(q,u),(r,v)]) : Wt c H0 H [(q,u),(p,o)]:=⟨w.cl,w.kp,fun x hx => w.at' x (by
 rcases List.mem_cons.mp hx with rfl | hx
 ·
  simp
 ·
  rw [List.mem_singleton.mp hx]; simp)⟩
theorem up3_id {H : Hp3} {a : Addr} {o : O3} (h : H a = some o) : up3 H a o = H:=by
 funext b
 by_cases e : b = a
 ·
  subst e; rw [up3_same,h]
 ·
  rw [up3_ne e]
def spSe : Sp3:=fun ts H Q => ∃ (W : Wk) (a : Addr) (f : Str -> Nat) (m : Nat),ts = [W.enc,.ref a] /\ WkOk W /\ H a = some (.dct (dN (W.tasks.map (·.1)) f)) /\ (∀ n,f n < m) /\ ∀ g : Str -> Nat,(∀ n,g n < m) -> Q .non (up3 H a (.dct (dN (W.tasks.map (·.1)) g)))
noncomputable def dealt (ns : List Str) (f : Str -> Nat) (m : Nat) : List (List Str):=(List.range m).map fun k => ns.filter fun n => decide (f n = k)
def spDe : Sp3:=fun ts H Q => ∃ (d : Addr) (W : Wk),ts = [.ref d,W.enc] /\ WkOk W /\ Cl H d /\ ∀ (ns : List Str) (f : Str -> Nat) (m : Nat) (H' : Hp3),ns.Perm (W.tasks.map (·.1)) -> 1 <= m -> m <= W.row.length -> (∀ n,f n < m) -> Drw d H H' -> Q (.tup ((dealt ns f m).map sT)) H'
end M
namespace L3
open PySem PySem.Spec PyProof.Rows L2
section
variable {prog : Program} {w : World} {A : Around} {E : Value -> Shared -> Prop} {s : Shared} {l : Addr} {xs : Array (Int × Tok)}
end
section
variable {X : Cx}
def r3SumT : List T -> Hp3 -> VK3 -> Prop:=fun ts H Q => match ts with
 | [.tup xs] => oq (ints3 xs) fun ns => Q (.int ns.sum) H
 | _ => False
theorem q_sumT (xs : List T) (H : Hp3) (Q : VK3) : r3SumT [.tup xs] H Q = oq (ints3 xs) fun ns => Q (.int ns.sum) H:=rfl
end
section
variable {X : Cx}
noncomputable def isN : T -> Bool
 | .non => true
 | _ => false
def r3Is : R3:=fun x y H Q => match y with
 | .non => Q (.bl (isN x)) H
 | _ => False
theorem q_is (x : T) (H : Hp3) (Q : VK3) : r3Is x .non H Q = Q (.bl (isN x)) H:=rfl
theorem isN_non : isN .non = true:=rfl
theorem isN_int (i : Int) : isN (.int i) = false:=rfl
theorem isN_str (x : Str) : isN (.str x) = false:=rfl
theorem isN_tup (ts : List T) : isN (.tup ts) = false:=rfl
theorem isN_bl (b : Bool) : isN (.bl b) = false:=rfl
theorem o3_is : OpR3 X (compareOp .Is) r3Is:=by
 refine OpR.imp op_isN ?_
 rintro x y H Q ⟨tx,ty,H3,Q3,rx,ry,sh,h,k⟩
 cases ty with
 | non =>
  refine ⟨ry.non,?_⟩
  have e : decide (x = .non) = isN tx:=by
   cases tx with
   | non => rw [rx.non]; rfl
   | int i => rw [rx.int]; rfl
   | str i => rw [rx.str]; rfl
   | bl i => rw [rx.bl]; rfl
   | ref a => rw [rx.ref]; rfl
   | tup ts => obtain ⟨a,vs,rfl,_⟩:=rx.tup; rfl
   | ty n => rw [rx.ty]; rfl
  rw [e]
  exact k _ _ _ _ .refl sh .ofBl h
 | _ => exact h.elim
end
end L3
namespace M
open PySem PySem.Spec PyProof.Rows L2 L3
noncomputable def shn : Nat -> T -> Bool
 | _,.int _ => true
 | _,.str _ => true
 | _,.non => true
 | d + 1,.tup ts => decide (ts.length <= sizeLine) && ts.all (shn d)
 | _,_ => false
theorem ix_get {ts : List T} {i : Nat} (h : i < ts.length) : atI ts (i : Int) = some ts[i]:=by
 rw [show atI ts (i : Int) = (ixN ts.length (i : Int)).bind (ts[·]?) from rfl,ixN_nat h]
 exact List.getElem?_eq_getElem h
def spSame (d : Nat) : Sp3:=fun ts H Q => ∃ t,d ≠ 0 /\ ts = [t,t] /\ shn (d - 1) t = true /\ Q (.bl true) H
theorem fn3_none {P : Program} {w : World} {K : PySem.W.Frag} {mg : Str -> Option Value} {base : Heap} {k : Nat} {f : Addr} {fd : FuncData} {ps : List Str} {sp : Sp3} (h : ∀ ts H Q,¬ sp ts H Q) : FnOk3 P w K mg base k f fd ps sp :=
 ⟨fun vs H Q E ⟨ts,H3,Q3,_,_,q,_⟩ => absurd q (h _ _ _),fun A outer s H args us vs Q E _ _ _ _ ⟨ts,H3,Q3,_,_,q,_⟩ => absurd q (h _ _ _)⟩
noncomputable def iN (ts : List (Str × Int × List Str)) : List (Str × T):=ts.map fun t => (t.1,T.int t.2.1)
noncomputable def lnOf (ts : List (Str × Int × List Str)) (n : Str) : Int:=match ts.find? (fun t => decide (t.1 = n)) with
 | some t => t.2.1
 | none => 0
theorem iN_look {n : Str} : ∀ {ts : List (Str × Int × List Str)},n ∈ ts.map (·.1) -> look3 n (iN ts) = some (T.int (lnOf ts n))
 | t :: r,h => by
  unfold iN lnOf
  rw [List.map_cons,List.find?_cons]
  unfold look3
  by_cases e : t.1 = n
  ·
   rw [if_pos e,decide_eq_true e]
  ·
   rw [if_neg e,decide_eq_false e]
   exact iN_look (ts:=r) ((List.mem_cons.mp (show n ∈ t.1 :: r.map (·.1) from h)).resolve_left (Ne.symm e))
theorem iN_new {ts : List (Str × Int × List Str)} {t : Str × Int × List Str} (h : t.1 ∉ ts.map (·.1)) : put3 t.1 (T.int t.2.1) (iN ts) = iN (ts ++ [t]):=by
 unfold put3 iN
 rw [if_neg (by
  intro e
  rw [List.any_eq_true] at e
  obtain ⟨x,hx,e⟩:=e
  obtain ⟨y,hy,rfl⟩:=List.mem_map.mp hx
  exact h (of_decide_eq_true e ▸ List.mem_map.mpr ⟨y,hy,rfl⟩)),List.map_append]
 rfl
theorem iN_len (ts : List (Str × Int × List Str)) : (iN ts).length = ts.length:=List.length_map _
noncomputable def smL (tk : List (Str × Int × List Str)) (ns : List Str) : Int:=(ns.map (lnOf tk)).sum
def spLd : Sp3:=fun ts H Q => ∃ (W : Wk) (D : List (List Str)),ts = [W.enc,.tup (D.map sT)] /\ WkOk W /\ D.length <= 8 /\ (∀ ns ∈ D,ns.length <= 8 /\ ∀ n ∈ ns,n ∈ W.tasks.map (·.1)) /\ ∀ p,H p = none -> Q (.ref p) (up3 H p (.lst ((D.map (smL W.tasks)).map T.int)))
end M
namespace M
open PySem PySem.Spec PyProof.Rows L2 L3
noncomputable def ld (tk : List (Str × Int × List Str)) (ns : List Str) : Int:=((tk.filter (fun t => memB false (.str t.1) (ns.map T.str))).map (·.2.1)).sum
def spLo : Sp3:=fun ts H Q => ∃ (W : Wk) (ns : List Str),ts = [W.enc,.tup (ns.map T.str)] /\ W.tasks.length <= 8 /\ Q (.int (ld W.tasks ns)) H
def spLs : Sp3:=fun ts H Q => ∃ (W : Wk) (D : List (List Str)),ts = [W.enc,.tup (D.map sT)] /\ W.tasks.length <= 8 /\ D.length <= 8 /\ Q (.tup ((D.map (ld W.tasks)).map T.int)) H
theorem lnOf_at {t : Str × Int × List Str} : ∀ {tk : List (Str × Int × List Str)},(tk.map (·.1)).Nodup -> t ∈ tk -> lnOf tk t.1 = t.2.1
 | u :: r,hn,h => by
  rw [List.map_cons,List.nodup_cons] at hn
  unfold lnOf
  rw [List.find?_cons]
  rcases List.mem_cons.mp h with rfl | h
  ·
   rw [decide_eq_true rfl]
  ·
   rw [decide_eq_false (fun e => hn.1 (by rw [e]; exact List.mem_map.mpr ⟨t,h,rfl⟩))]
   exact lnOf_at hn.2 h
theorem sum_perm {a b : List Int} (h : a.Perm b) : a.sum = b.sum:=by
 induction h with
 | nil => rfl
 | cons x _ ih => rw [List.sum_cons,List.sum_cons,ih]
 | swap x y l => rw [List.sum_cons,List.sum_cons,List.sum_cons,List.sum_cons]; omega
 | trans _ _ h1 h2 => exact h1.trans h2
theorem sm_ld {tk : List (Str × Int × List Str)} {ns : List Str} (hn : (tk.map (·.1)).Nodup) (hs : ns.Nodup) (hm : ∀ n ∈ ns,n ∈ tk.map (·.1)) : smL tk ns = ld tk ns:=by
 have hb : ∀ t : Str × Int × List Str,memB false (.str t.1) (ns.map T.str) = true ↔ t.1 ∈ ns:=fun t => memI str_inj
 have e : (tk.filter (fun t => memB false (.str t.1) (ns.map T.str))).map (·.2.1) = ((tk.filter (fun t => memB false (.str t.1) (ns.map T.str))).map (·.1)).map (lnOf tk):=by
  rw [List.map_map]
  refine List.map_congr_left fun t ht => ?_
  exact (lnOf_at hn (List.mem_filter.mp ht).1).symm
 unfold smL ld
 rw [e]
 refine sum_perm (List.Perm.map _ ?_)
 refine (List.perm_ext_iff_of_nodup hs ((List.filter_sublist.map _).nodup hn)).mpr fun n => ⟨fun h => ?_,fun h => ?_⟩
 ·
  obtain ⟨t,ht,rfl⟩:=List.mem_map.mp (hm n h)
  exact List.mem_map.mpr ⟨t,List.mem_filter.mpr ⟨ht,(hb t).mpr h⟩,rfl⟩
 ·
  obtain ⟨t,ht,rfl⟩:=List.mem_map.mp h
  exact (hb t).mp (List.mem_filter.mp ht).2
theorem dealt_in {ns ws : List Str} {f : Str -> Nat} {m : Nat} (hp : ns.Perm ws) (hn : ws.Nodup) {xs : List Str} (h : xs ∈ dealt ns f m) : xs.length <= ns.length /\ xs.Nodup /\ ∀ n ∈ xs,n ∈ ws:=by
 obtain ⟨k,_,rfl⟩:=List.mem_map.mp h
 exact ⟨List.length_filter_le _ _,List.filter_sublist.nodup (hp.nodup_iff.mpr hn),fun n hn => hp.mem_iff.mp (List.mem_filter.mp hn).1⟩
theorem dealt_len (ns : List Str) (f : Str -> Nat) (m : Nat) : (dealt ns f m).length = m:=by unfold dealt; rw [List.length_map,List.length_range]
end M
namespace L2
open PySem PySem.Spec PyProof.Rows
section
variable {X : Cx} {a b : Expr} {rest : List Expr} {ta tb : TE} {pos : Pos}
def tOrT (K : PySem.W.Frag) (ta tb : TE) : TE:=fun σ H Q => ta σ H fun x H1 => ∃ k,TruV K x H1 k /\ if k = true then Q x H1 else tb σ H1 Q
theorem pe_orT (ha : PE X a ta) (hb : PE X (.BoolOp .Or (b :: rest) pos) tb) : PE X (.BoolOp .Or (a :: b :: rest) pos) (tOrT X.K ta tb):=by
 intro pins s σ H Q I h
 refine BoolOp_or (thn (ha pins s σ H _ I h) fun v s1 ⟨x,H1,I1,r1,k,tk,q1⟩ => ?_)
 refine thn (tru_ok pins s1 σ H1 x v (fun c H2 => c = k /\ H2 = H1) I1 r1 ⟨k,tk,rfl,rfl⟩) fun c s2 ⟨H2,I2,e1,e2⟩ => ?_
 subst e1; subst e2
 cases c with
 | false => exact hb pins s2 σ H2 Q I2 q1
 | true => exact ⟨x,H2,I2,r1,q1⟩
def rExtendT (K : PySem.W.Frag) : V -> List V -> Hp -> VK -> Prop:=fun x vs H Q => ∃ l b xs zs,x = .ref l /\ vs = [.ref b] /\ H l = some (.lst xs) /\ SqT K H b zs /\ xs.length + zs.length <= sizeLine /\ Q .non (upd H l (.lst (xs ++ zs)))
theorem mt_extendT : MtR X "list.extend" (rExtendT X.K):=by
 intro pins s σ H x vs v us Q I rx rv h
 obtain ⟨l,b,xs,zs,rfl,rfl,hH,hB,hz,q⟩:=h
 cases rx
 obtain ⟨u,rfl,ru⟩:=rv.one
 cases ru
 obtain ⟨z,its,n,r,hl,e⟩:=I.lstM hH
 obtain ⟨its2,r2,⟨ob,e2,hc2,n2,hd2⟩,hl2⟩:=I.tuple hB
 obtain ⟨oc,od,oda,osl⟩:=ob
 simp only at hc2 hd2
 subst hc2; subst hd2
 have hr2:=r2.length
 have hsz : its.toArray.size + its2.toArray.size <= sizeLine:=by rw [List.size_toArray,List.size_toArray]; omega
 have hlong : ¬ (!its.toArray.isEmpty && Builtin.List.listTooLong (its.toArray.size + its2.toArray.size)) = true:=by
  rw [notLongL hsz,Bool.and_false]
  exact Bool.false_ne_true
 refine wpAny_call_entry F.slot_list_extend ⟨_,e,rfl⟩ F.entry_list_extend ?_ (F.args_list_extend_2 _ _)
 show wpAny _ _ (Builtin.List.listExtendWith (.ref l) (.ref b) .none) _ _ _
 unfold Builtin.List.listExtendWith
 refine wpAny_bind (wpAny_typeOf ⟨_,e2,rfl⟩ ?_)
 rw [if_pos (by rw [Bool.or_eq_true]; exact .inr (by decide))]
 refine wpAny_bind (listItems_at e2 rfl (wpAny_bind (listItems_at e rfl ?_)))
 rw [if_neg hlong]
 refine wpAny_bind (listUpdate_at e rfl (wpAny_pure ⟨_,rfl,?_⟩) (by rw [List.size_toArray]; omega) (by rw [Array.size_append]; omega))
 refine ⟨.non,_,I.lset (its':=its ++ its2) hH e (by simp) (r.append r2) ?_,rfl,q⟩
 rw [List.length_append]
 omega
end
end L2
namespace L3
open PySem PySem.Spec PyProof.Rows L2
section
variable {X : Cx} {a b : Expr} {rest : List Expr} {ta tb : TE3} {pos : Pos}
def orq (x : T) (p q : Prop) : Prop:=match x with
 | .non => p
 | .tup (_ :: _) => q
 | _ => False
theorem q_orN (p q : Prop) : orq .non p q = p:=rfl
theorem q_orT (t : T) (ts : List T) (p q : Prop) : orq (.tup (t :: ts)) p q = q:=rfl
def tOrT3 (ta tb : TE3) : TE3:=fun σ H Q => ta σ H fun x H1 => orq x (tb σ H1 Q) (Q x H1)
theorem e3_orT (ha : PE3 X a ta) (hb : PE3 X (.BoolOp .Or (b :: rest) pos) tb) : PE3 X (.BoolOp .Or (a :: b :: rest) pos) (tOrT3 ta tb):=by
 refine PE.imp (pe_orT ha hb) ?_
 rintro σ H Q ⟨σ3,H3,Q3,ss,sh,h,k⟩
 refine ⟨σ3,H3,_,ss,sh,h,fun v H' t H3' le sh' r q => ?_⟩
 cases t with
 | non =>
  rw [q_orN] at q
  rw [r.non]
  exact ⟨false,rfl,by rw [if_neg Bool.false_ne_true]; exact ⟨σ3,H3',_,ss.mono le,sh',q,k.at le⟩⟩
 | tup ts =>
  cases ts with
  | nil => exact q.elim
  | cons t ts =>
   rw [q_orT] at q
   obtain ⟨p,xs,rfl,sq,rs⟩:=id r.tup
   obtain ⟨x,xr,rfl,_,_⟩:=rs.inv
   exact ⟨true,.inr (.inl ⟨_,sq,rfl⟩),by rw [if_pos rfl]; exact k _ H' _ H3' le sh' r q⟩
 | _ => exact q.elim
def exT (o : Option O3) (a : Addr) (ys : List T) (H : Hp3) (Q : VK3) : Prop:=match o with
 | some (.lst xs) => xs.length + ys.length <= sizeLine /\ Q .non (up3 H a (.lst (xs ++ ys)))
 | _ => False
def r3ExtT : T -> List T -> Hp3 -> VK3 -> Prop:=fun x ts H Q => match x,ts with
 | .ref a,[.tup ys] => exT (H a) a ys H Q
 | _,_ => False
theorem q_extT (a : Addr) (ys : List T) (H : Hp3) (Q : VK3) : r3ExtT (.ref a) [.tup ys] H Q = exT (H a) a ys H Q:=rfl
theorem q_exT (a : Addr) (xs ys : List T) (H : Hp3) (Q : VK3) : exT (some (.lst xs)) a ys H Q = (xs.length + ys.length <= sizeLine /\ Q .non (up3 H a (.lst (xs ++ ys)))):=rfl
theorem m3_extendT : MtR3 X "list.extend" r3ExtT:=by
 refine MtR.imp mt_extendT ?_
 rintro x xs H Q ⟨tx,ts,H3,Q3,rx,rs,sh,h,k⟩
 match tx,ts,h,rx,rs with
 | .ref a,[.tup ys],h,rx,rs =>
  obtain ⟨v,rfl,rv⟩:=rs.one'
  rw [q_extT] at h
  cases e : H3 a with
  | none => rw [e] at h; exact h.elim
  | some o =>
   rw [e] at h
   cases o with
   | lst ls =>
    rw [q_exT] at h
    obtain ⟨us,hH,r⟩:=sh a _ e
    obtain ⟨p,zs,rfl,sq,r2⟩:=rv.tup
    exact ⟨a,p,us,zs,rx.ref,rfl,hH,sq,by rw [<- r.length,<- r2.length]; exact h.1,k _ _ _ _ (wr_tupLe (by rw [hH]; exact trivial)) (sh.wrL hH (r.append r2)) .ofNon h.2⟩
   | _ => exact h.elim
theorem o3_shr : OpR3 X (binaryOp .RShift) (rI3 (fun _ j => 0 <= j) fun i j => .int (i / 2 ^ j.toNat)):=o3_I op_shr fun _ _ _ => .ofInt
def r3Upper : T -> List T -> Hp3 -> VK3 -> Prop:=fun x ts H Q => match x,ts with
 | .str z,[] => z.length <= 1000 /\ ∀ y : Str,y.length <= 3 * z.length -> Q (.str y) H
 | _,_ => False
theorem q_upper (z : Str) (H : Hp3) (Q : VK3) : r3Upper (.str z) [] H Q = (z.length <= 1000 /\ ∀ y : Str,y.length <= 3 * z.length -> Q (.str y) H):=rfl
theorem m3_upper : MtR3 X "str.upper" r3Upper:=by
 intro pins s σ H x xs v us Q I rx0 rs0 hh
 obtain ⟨tx,ts,H3,Q3,rx,rs,sh,h,k⟩:=hh
 cases tx with
 | str z =>
  cases ts with
  | cons _ _ => exact h.elim
  | nil =>
   rw [q_upper] at h
   rw [rs.inv0] at rs0
   cases rs0
   rw [rx.str] at rx0
   obtain ⟨t,rfl⟩:=rx0
   have hl:=len_upper z
   have hs : sizeLine = 16777216:=rfl
   refine SC.upper (by unfold Builtin.Str.tooLong; rw [decide_eq_false (by omega)]) ?_
   exact ⟨.str _,H,I.tok _,⟨_,rfl⟩,k _ _ _ _ .refl sh .ofStr (h.2 _ hl)⟩
 | _ => exact h.elim
def neR (a b : Addr) (o u : Option O3) (H : Hp3) (Q : VK3) : Prop:=match o,u with
 | some (.rol xs),some (.lst ys) => a ≠ b /\ xs.all (pl 20) = true /\ ys.all (pl 20) = true /\ Q (.bl (!decide (xs = ys))) H
 | _,_ => False
def r3NeR : R3:=fun x y H Q => match x,y with
 | .ref a,.ref b => neR a b (H a) (H b) H Q
 | _,_ => False
theorem q_neR (a b : Addr) (H : Hp3) (Q : VK3) : r3NeR (.ref a) (.ref b) H Q = neR a b (H a) (H b) H Q:=rfl
theorem q_neRH (a b : Addr) (xs ys : List T) (H : Hp3) (Q : VK3) : neR a b (some (.rol xs)) (some (.lst ys)) H Q = (a ≠ b /\ xs.all (pl 20) = true /\ ys.all (pl 20) = true /\ Q (.bl (!decide (xs = ys))) H):=rfl
theorem o3_neR (hu : X.A.units + 30 < cLine) : OpR3 X (compareOp .NotEq) r3NeR:=by
 intro pins s σ H x y v u Q I rv ru h
 obtain ⟨tx,ty,H3,Q3,rx,ry,sh,h,k⟩:=h
 cases tx with
 | ref a =>
  cases ty with
  | ref b =>
   rw [q_neR] at h
   cases e1 : H3 a with
   | none => rw [e1] at h; exact h.elim
   | some o =>
    cases e2 : H3 b with
    | none => rw [e1,e2] at h; cases o <;> exact h.elim
    | some o2 =>
     rw [e1,e2] at h
     cases o with
     | rol ts =>
      cases o2 with
      | lst us =>
       rw [q_neRH] at h
       obtain ⟨xs,g1,r⟩:=sh.sqL (.inr e1)
       obtain ⟨ys,g2,r'⟩:=sh b _ e2
       cases rx.ref; cases ry.ref; cases rv; cases ru
       obtain ⟨its,rv1,ht,_⟩:=I.list (X:=X) g1
       obtain ⟨its',rv2,ht',_⟩:=I.list (X:=X) (.of g2)
       have hl : its.length = ts.length:=by rw [<- rv1.length,<- r.length]
       have hl' : its'.length = us.length:=by rw [<- rv2.length,<- r'.length]
       by_cases hsz : ts.length = us.length
       ·
        refine SeqAt.RcNeAt.lists (e:=fun j => decide (ts[j]? = us[j]?)) ht.isList ht'.isList (by simp; omega) (by omega) (items_eq I hu h.2.1 h.2.2.1 r r' rv1 rv2) _ _ _ _ ⟨.bl _,H,I,rfl,?_⟩
        have e:=rows_dec (ts:=ts) (us:=us)
        rw [<- hsz,Nat.min_self,beq_self_eq_true,Bool.and_true] at e
        rw [List.size_toArray,hl,e]
        exact k _ _ _ _ .refl sh .ofBl h.2.2.2
       ·
        refine SeqAt.RcNeAt.lists_lengths ht.isList ht'.isList (by simp; omega) (by omega) _ _ _ _ ⟨.bl true,H,I,rfl,?_⟩
        have e : decide (ts = us) = false:=decide_eq_false fun z => hsz (by rw [z])
        have q:=h.2.2.2
        rw [e] at q
        exact k _ _ _ _ .refl sh .ofBl q
      | _ => exact h.elim
     | _ => cases o2 <;> exact h.elim
  | _ => exact h.elim
 | _ => exact h.elim
end
end L3
namespace L2
open PySem PySem.Spec PyProof.Rows
theorem miss_keys : typeLookup (.type "list") "keys" = pure none:=by rw [typeLookup_type,builtinLookup_eq_fast]; kernel_rfl
theorem attrQ_miss {prog : Program} {w : World} {A : Around} {E : Value -> Shared -> Prop} {s : Shared} {a : Addr} {xs : Array Value} {k : Nat} {sl : Array (Option Value)} {Q : Option Value -> Shared -> Prop}
  (hx : s.heap.get? a = some { cls:=.type "list",dict:=none,data:=.seq xs k,slots:=sl }) (hA : A.handled = none)
  (h : ∀ h' tk e,Heap.NewExcOf s.heap h' e "AttributeError" -> Q none { s with heap:=h',toks:=tk }) : wpAny (model prog w) A (getAttr? (.ref a) "keys") Q E s:=by
 obtain ⟨hp,g,d,tk,os⟩:=s
 have hT : ∀ tk',(⟨hp,g,d,tk',os⟩ : Shared).TypeIs (.ref a) "list":=fun _ => ⟨_,hx,rfl⟩
 have f1:=sub_AttributeError
 have f3:=F.slot_list_getattribute.lookup
 have f4:=F.slot_list_getattribute.bind (.ref a)
 have f5:=am_list_getattr_none
 unfold getAttr? getAttrBy? getAttrBy
 repeat (any_goals (first | assumption | exact hT _ | ((with_reducible show wpAny _ _ (call (Value.builtin "list.__getattribute__") _ _) _ _ _); refine call_meets F.slot_list_getattribute (hT _) am_entry_list_getattribute (F.args_list_getattribute_2 _ _) (meets_getattribute_miss_list a xs k sl "keys" _ miss_keys (by decide) (by decide)) ⟨hx,hA,fun h' tk' e hx' => ?_⟩) | wp_step))
 obtain ⟨t',u',he⟩:=hx'.there
 show wpAny _ _ (getattributeRaised _ _ _ _ _ _ _) _ _ _
 unfold getattributeRaised
 repeat (any_goals (first | assumption | wp_step))
 all_goals exact h _ _ _ hx'.of
end L2
namespace L2
open PySem PySem.Spec PyProof.Rows
theorem plain_dul : plainId "dict.update.loop" = true:=by decide +kernel
theorem entry_dul : entryFor table "dict.update.loop" = some Builtin.«dict.update.loop»:=entryFor_of_tree (by kernel_rfl)
def Tup2 (h : Heap) (p : Addr) (k v : Value) : Prop:=∃ o n,h.get? p = some o /\ o.cls = .type "tuple" /\ o.data = .seq #[k,v] n
section
variable {prog : Program} {w : World} {K : Type} [DecidableEq K] {knd : KeyKind prog w K}
theorem dict_loop {A : Around} {R : Result -> Shared -> Prop} {J : Addr} {fp wr : List Addr} {n : Nat} {P : Nat -> Value -> Prop} {St : Nat -> Heap -> Prop}
  (W : Walks prog w A.in1 J fp wr n P St) (d : Addr) (nd : d ∉ fp) (ps : List (K × Value)) (hn : ps.length = n) (h8 : n <= sizeLine) :
  ∀ (k i : Nat) (s : Shared),n - i = k -> i <= n -> St i s.heap -> s.heap.DictOf knd d (merged [] (ps.take i)) ->
   (∀ j v,P j v -> ∃ kk kv x p,ps[j]? = some (kk,x) /\ v = .ref p /\ knd.is kk kv = true /\ p ∉ d :: wr /\ Tup2 s.heap p kv x) ->
   (∀ s',Moved (d :: wr) (fun a b => b = a) s s' -> s'.heap.DictOf knd d (merged [] ps) -> R (.ok (.ret .none)) s') ->
   codeAny (model prog w) A (.builtin "dict.update.loop" ⟨[.ref d,.ref J,rawInt i,.none],[]⟩) R s:=by
 have WS:=W.toS
 have nW : d ∉ wr:=fun h => nd (WS.sub _ h)
 have up : ∀ c ∈ wr,c ∈ d :: wr:=fun c hc => List.mem_cons_of_mem _ hc
 intro k
 induction k with
 | zero =>
  intro i s hk hi st hB hT fin
  have ei : i = n:=by omega
  subst ei
  refine codeAny_builtin entry_dul ?_
  rw [Around.under_plainId plain_dul _]
  show wpAny _ A.in1 (pyNext (.ref J) >>= _) _ _ s
  refine wpAny_bind (WS.done s _ _ st fun s' mv => ?_)
  show wpAny _ A.in1 (do Builtin.Dict.addKeywords d []; ret Value.none) _ _ s'
  rw [<- hn,List.take_length] at hB
  refine wpAny_bind (wpAny_pure (wpAny_pure (fin s' (mv.mono up) ?_)))
  obtain ⟨o,es,ep,ho,rest⟩:=hB
  exact ⟨o,es,ep,mv.heap d _ nW ho,rest⟩
 | succ k ih =>
  intro i s hk hi st hB hT fin
  have lt : i < n:=by omega
  refine codeAny_builtin entry_dul ?_
  rw [Around.under_plainId plain_dul _]
  show wpAny _ A.in1 (pyNext (.ref J) >>= _) _ _ s
  refine wpAny_bind (WS.item i s _ _ lt st fun v s' pv st' mv => ?_)
  obtain ⟨kk,kv,x,p,hp,rfl,hkv,hpn,o,no,ho,hc,hd⟩:=hT i v pv
  have ho' : s'.heap.get? p = some o:=mv.heap p _ (fun z => hpn (up p z)) ho
  have hB' : s'.heap.DictOf knd d (merged [] (ps.take i)):=by
   obtain ⟨o,es,ep,ho,rest⟩:=hB
   exact ⟨o,es,ep,mv.heap d _ nW ho,rest⟩
  refine wpAny_bind (wpAny_holding ?_)
  refine wpAny_bind (m:=tryCatch (Builtin.Dict.pairItems (.ref p)) _) (wpAny_tryCatch ?_)
  unfold Builtin.Dict.pairItems
  refine wpAny_bind (wpAny_typeOf (T:="tuple") ⟨o,ho',hc⟩ ?_)
  rw [if_pos (by decide)]
  refine wpAny_bind (wpAny_seqItems ho' hd (wpAny_pure ?_))
  have hm : (merged [] (ps.take i)).length <= sizeLine:=by
   have h1:=merged_length_le ([] : List (K × Value)) (ps.take i)
   have h2 : (ps.take i).length <= n:=by rw [List.length_take]; omega
   simp only [List.length_nil,Nat.zero_add] at h1
   omega
  show wpAny _ A.in1 (holding [kv,x] (dictSet d kv x)) _ _ s'
  refine wpAny_holding (wpAny_dictSet_pairs hkv hB' (fun h' hB2 sb => ?_) hm)
  refine wpAny_pure ⟨plainId_quiet plain_dul _,ih (i + 1) _ (by omega) lt (WS.frame _ s' _ _ st' (Nat.le_succ _) fun c hc o e => ?_) (by rw [merged_take_succ _ _ _ _ hp]; exact hB2) (fun j v pj => ?_) fun s'' mv2 hB4 => ?_⟩
  ·
   rw [sb.2 c (fun z : c = d => nd (by rw [<- z]; exact hc))]; exact e
  ·
   obtain ⟨kk,kv,x,p,hp,e,hkv,hpn,o,no,ho,hc,hd⟩:=hT j v pj
   refine ⟨kk,kv,x,p,hp,e,hkv,hpn,o,no,?_,hc,hd⟩
   show h'.get? p = some o
   rw [sb.2 p (fun z : p = d => hpn (by rw [z]; exact List.mem_cons_self))]
   exact mv.heap p _ (fun z => hpn (up p z)) ho
  ·
   refine fin s'' (Moved.trans WS.gtrans ((mv.mono up).then_heap (Nat.le_succ _) fun c o hc e => ?_) mv2) hB4
   rw [sb.2 c (fun z : c = d => hc (by rw [z]; exact List.mem_cons_self))]; exact e
theorem call_dict_pairs {A : Around} {E : Value -> Shared -> Prop} {s : Shared} {l : Addr} {its : Array Value} {nl : Nat} {sl : Array (Option Value)} {ps : List (K × Value)} {Q : Value -> Shared -> Prop} (hh : A.handled = none)
  (hl : s.heap.get? l = some { cls:=.type "list",dict:=none,data:=.seq its nl,slots:=sl }) (hn : ps.length = its.size) (h8 : its.size <= sizeLine)
  (hT : ∀ (j : Nat) (v : Value),its[j]? = some v -> ∃ (kk : K) (kv x : Value) (p : Addr),ps[j]? = some (kk,x) /\ v = .ref p /\ knd.is kk kv = true /\ Tup2 s.heap p kv x)
  (h : ∀ (h' : Heap) (tk : Nat),h'.DictOf knd s.heap.objs.size (merged [] ps) -> (∀ b o,s.heap.get? b = some o -> h'.get? b = some o) -> Q (.ref s.heap.objs.size) { s with heap:=h',toks:=tk }) :
  wpAny (model prog w) A (call (.type "dict") [.ref l]) Q E s:=by
 refine callType_codes (Q₁:=fun obj s₁ => obj = .ref s.heap.objs.size /\ s₁ = { s with heap:=s.heap.push { cls:=.type "dict",data:=.dict #[] } }) F.kt_called_dict (F.kt_typeCall_dict_1 _) F.entry_dict_init (kt_code_dict_new _ ⟨rfl,rfl⟩) ?_
 rintro obj s₁ ⟨rfl,rfl⟩
 have hnew : (s.heap.push { cls:=.type "dict",data:=.dict #[] }).DictOf knd s.heap.objs.size []:=Heap.DictOf.new s.heap
 have hl1 : (s.heap.push { cls:=.type "dict",data:=.dict #[] }).get? l = some { cls:=.type "list",dict:=none,data:=.seq its nl,slots:=sl }:=Heap.get?_push_of_some _ hl
 refine ⟨hnew.typeIs,F.args_dict_init_2 _ _,?_⟩
 unfold Builtin.«dict.__init__»
 refine wpAny_bind ?_
 unfold Builtin.Dict.selfAndRest
 refine wpAny_bind (wpAny_notOrdered_dict hnew.typeIs ?_)
 show wpAny _ _ (pure (s.heap.objs.size,[Value.ref l])) _ _ _
 refine wpAny_pure ?_
 show wpAny _ _ (Builtin.Dict.updateFrom "dict.__init__" s.heap.objs.size (.ref l) [] .none) _ _ _
 unfold Builtin.Dict.updateFrom
 refine wpAny_bind (wpAny_typeOf (T:="list") ⟨_,hl1,rfl⟩ ?_)
 rw [if_pos (by decide)]
 have hh2 : A.in1.in1.handled = none:=by simp [hh]
 refine wpAny_bind (attrQ_miss hl1 hh2 fun h2 tk e ne => ?_)
 show wpAny _ _ (do rule _; let it <- pyIter (.ref l); again (.builtin "dict.update.loop" ⟨[.ref s.heap.objs.size,it,rawInt 0,.none],[]⟩)) _ _ _
 refine wpAny_bind (wpAny_rule ?_)
 have hl2:=ne.keeps _ _ hl1
 have hL2 : h2.IsList l its:=⟨_,hl2,rfl,_,rfl⟩
 refine wpAny_bind (wpAny_pyIter_list (s:={ s with heap:=h2,toks:=tk }) hL2 ?_)
 refine wpAny_pure ?_
 have lS : l < h2.objs.size:=Heap.lt_size hl2
 have dS : s.heap.objs.size < h2.objs.size:=Heap.lt_size (ne.keeps s.heap.objs.size _ (Heap.get?_push_size _ rfl))
 have lt0 : l < s.heap.objs.size:=Heap.lt_size hl
 have hh3 : A.in1.in1.handled = none:=by simp [hh]
 have nB : s.heap.objs.size ∉ [h2.objs.size,l]:=by
  intro z
  simp only [List.mem_cons,List.not_mem_nil,or_false] at z
  rcases z with z | z
  ·
   exact absurd z (Nat.ne_of_lt dS)
  ·
   exact absurd z (Nat.ne_of_gt lt0)
 have kp0 : ∀ b o,s.heap.get? b = some o -> (h2.push { cls:=.type "list_iterator",data:=.fields #[.ref l,.int 0 0] }).get? b = some o:=fun b o e => Heap.get?_push_of_some _ (ne.keeps _ _ (Heap.get?_push_of_some _ e))
 refine ⟨plainId_quiet plain_dul _,?_⟩
 refine dict_loop (knd:=knd) (Walks.list hh3 _ l (Nat.ne_of_lt lS) its) s.heap.objs.size nB ps hn h8 (its.size - 0) 0 _ (by omega) (Nat.zero_le _) ⟨⟨_,Heap.get?_push_size _ rfl,rfl,rfl⟩,⟨_,Heap.get?_push_of_some _ hl2,rfl,_,rfl⟩⟩ ?_ ?_ ?_
 ·
  obtain ⟨o,es,ep,ho,rest⟩:=hnew
  exact ⟨o,es,ep,Heap.get?_push_of_some _ (ne.keeps _ _ ho),rest⟩
 ·
  intro j v e
  obtain ⟨kk,kv,x,p,hp,rfl,hkv,o,no,ho,hc,hd⟩:=hT j v e
  refine ⟨kk,kv,x,p,hp,rfl,hkv,fun z => ?_,o,no,kp0 _ _ ho,hc,hd⟩
  have:=Heap.lt_size ho
  simp only [List.mem_cons,List.not_mem_nil,or_false] at z
  rcases z with z | z
  ·
   exact absurd z (Nat.ne_of_lt this)
  ·
   exact absurd z (Nat.ne_of_lt (Nat.lt_trans this dS))
 ·
  intro s' mv hB'
  obtain ⟨h',g',d',tk',os'⟩:=s'
  have eg : g' = s.gens:=mv.gens
  have ed : d' = s.drawn:=mv.drawn
  have eo : os' = s.os:=mv.os
  subst eg ed eo
  refine ⟨rfl,h h' tk' hB' fun b o e => mv.heap b o (fun z => ?_) (kp0 b o e)⟩
  have:=Heap.lt_size e
  simp only [List.mem_cons,List.not_mem_nil,or_false] at z
  rcases z with z | z
  ·
   exact absurd z (Nat.ne_of_lt this)
  ·
   exact absurd z (Nat.ne_of_lt (Nat.lt_trans this dS))
end
end L2
namespace L3
open PySem PySem.Spec PyProof.Rows L2
noncomputable def prd1 : T -> Option (Str × T)
 | .tup [.str k,v] => some (k,v)
 | _ => none
noncomputable def prd3 : List T -> Option (List (Str × T))
 | [] => some []
 | t :: r => match prd1 t,prd3 r with
  | some p,some ps => some (p :: ps)
  | _,_ => none
theorem prd3_map {α : Type} (f : α -> Str × T) : ∀ xs : List α,prd3 (xs.map fun x => T.tup [.str (f x).1,(f x).2]) = some (xs.map f)
 | [] => rfl
 | x :: r => by
  rw [List.map_cons,List.map_cons]
  unfold prd3
  rw [prd3_map f r]
  rfl
theorem prd1_inv {t : T} {p : Str × T} (h : prd1 t = some p) : t = .tup [.str p.1,p.2]:=by
 unfold prd1 at h
 split at h
 ·
  cases h; rfl
 ·
  cases h
section
variable {X : Cx}
theorem prd3_rep {pins : List (Addr × Obj)} {σ : L2.St} {H : Hp} {s : Shared} (I : Inv X pins σ H s) : ∀ {ts : List T} {us : List V} {its : List Value} {kvs : List (Str × T)},prd3 ts = some kvs -> Reps X.K H ts us -> Vals us its ->
  ∃ (vs : List (Key × V)) (ps : List (Key × Value)),RepD X.K H kvs vs /\ KV vs ps /\ ps.length = its.length /\ ∀ (j : Nat) (v : Value),its[j]? = some v -> ∃ (kk : Key) (kv x : Value) (p : Addr),ps[j]? = some (kk,x) /\ v = .ref p /\ (mixKind X.prog X.w).is kk kv = true /\ Tup2 s.heap p kv x
 | [],us,its,kvs,e,r,rv => by
  cases e
  rw [r.inv0] at rv
  cases rv
  exact ⟨[],[],.nil,.nil,rfl,fun j v h => by simp at h⟩
 | t :: ts,us,its,kvs,e,r,rv => by
  unfold prd3 at e
  split at e
  ·
   rename_i p ps' e1 e2
   cases e
   obtain ⟨v,ur,rfl,rv1,rr⟩:=r.inv
   cases rv with
   | cons q qs =>
    rename_i it itr
    obtain ⟨vs,ps,a1,a2,a3,a4⟩:=prd3_rep I e2 rr qs
    rw [prd1_inv e1] at rv1
    obtain ⟨pa,xs,rfl,sq,rs⟩:=rv1.tup
    obtain ⟨k0,r1,rfl,rk,rs1⟩:=rs.inv
    obtain ⟨x0,r2,rfl,rx,rs2⟩:=rs1.inv
    rw [rs2.inv0] at sq
    rw [rk.str] at sq
    cases q
    obtain ⟨its2,rv2,⟨o,ho,hc,n,hd⟩,_⟩:=I.tuple sq
    cases rv2 with
    | cons z1 z2 =>
     rename_i kv l2
     cases z2 with
     | cons z3 z4 =>
      rename_i xv l3
      cases z4
      refine ⟨(Sum.inr p.1,x0) :: vs,(Sum.inr p.1,xv) :: ps,.cons ⟨rfl,rx⟩ a1,.cons ⟨rfl,z3⟩ a2,by simp [a3],fun j w h => ?_⟩
      cases j with
      | zero =>
       simp only [List.getElem?_cons_zero,Option.some.injEq] at h
       subst h
       exact ⟨_,kv,xv,pa,rfl,rfl,kV_is (k:=Sum.inr p.1) z1,o,n,ho,hc,hd⟩
      | succ j =>
       rw [List.getElem?_cons_succ] at h ⊢
       exact a4 j w h
  ·
   cases e
def dcH (o : Option O3) (H : Hp3) (Q : VK3) : Prop:=match o with
 | some (.lst xs) => oq (prd3 xs) fun kvs => (kvs.map (·.1)).Nodup /\ ∀ p,H p = none -> Q (.ref p) (up3 H p (.dct kvs))
 | _ => False
def r3Dict : List T -> Hp3 -> VK3 -> Prop:=fun ts H Q => match ts with
 | [.ref a] => dcH (H a) H Q
 | _ => False
theorem q_dict (a : Addr) (H : Hp3) (Q : VK3) : r3Dict [.ref a] H Q = dcH (H a) H Q:=rfl
theorem q_dcH (xs : List T) (H : Hp3) (Q : VK3) : dcH (some (.lst xs)) H Q = oq (prd3 xs) fun kvs => (kvs.map (·.1)).Nodup /\ ∀ p,H p = none -> Q (.ref p) (up3 H p (.dct kvs)):=rfl
theorem SimH.newDk {K : PySem.W.Frag} {H : Hp} {H3 : Hp3} {p : Addr} {kvs : List (Str × T)} {vs : List (Key × V)} (s : SimH K H3 H) (hp : H p = none) (r : RepD K H kvs vs) : SimH K (up3 H3 p (.dct kvs)) (upd H p (.dK vs)):=fun a o e => by
 by_cases ha : a = p
 ·
  subst ha
  rw [up3_same] at e; cases e
  exact ⟨vs,upd_same,r.mono (upd_tupLe hp)⟩
 ·
  rw [up3_ne ha] at e
  exact s.new hp a o e
theorem keys_KV {K : PySem.W.Frag} {H : Hp} : ∀ {kvs : List (Str × T)} {vs : List (Key × V)},RepD K H kvs vs -> vs.map (·.1) = (kvs.map (·.1)).map Sum.inr
 | [],_,.nil => rfl
 | p :: r,_,.cons ⟨e,_⟩ q => by rw [List.map_cons,List.map_cons,List.map_cons,keys_KV q,e]
theorem keys_KV2 : ∀ {vs : List (Key × V)} {ps : List (Key × Value)},KV vs ps -> ps.map (·.1) = vs.map (·.1)
 | [],_,.nil => rfl
 | p :: r,_,.cons ⟨e,_⟩ q => by rw [List.map_cons,List.map_cons,keys_KV2 q,e]
theorem c3_dict (hc : X.calm = true) : CallR3 X (.type "dict") r3Dict:=by
 intro pins s σ H xs us Q I rv h
 obtain ⟨ts,H3,Q3,r,sh,h,k⟩:=h
 match ts,h,r with
 | [.ref a],h,r =>
  obtain ⟨v,rfl,rv'⟩:=r.one'
  obtain ⟨u,rfl,ru⟩:=vals1 rv
  rw [rv'.ref] at ru
  cases ru
  rw [q_dict] at h
  cases e : H3 a with
  | none => rw [e] at h; exact h.elim
  | some o =>
   rw [e] at h
   cases o with
   | lst ls =>
    rw [q_dcH] at h
    cases e2 : prd3 ls with
    | none => rw [e2] at h; exact h.elim
    | some kvs =>
     rw [e2,q_oq] at h
     obtain ⟨nd,q⟩:=h
     obtain ⟨ys,hH,rs⟩:=sh a _ e
     obtain ⟨z,its,n,rr,hlen,hl⟩:=I.lstM hH
     obtain ⟨vs,ps,a1,a2,a3,a4⟩:=prd3_rep I e2 rs rr
     have hp : H s.heap.objs.size = none:=I.hok.fresh (Nat.le_refl _)
     have hN : (ps.map (·.1)).Nodup:=by
      rw [keys_KV2 a2,keys_KV a1]
      exact List.pairwise_map.mpr (List.Pairwise.imp (fun h e => h (Sum.inr.inj e)) nd)
     refine call_dict_pairs (knd:=mixKind X.prog X.w) (I.ok.hd hc) hl (by rw [List.size_toArray]; exact a3) (by rw [List.size_toArray]; omega) (fun j v e => a4 j v (by simpa using e)) fun h' tk dd kp => ?_
     rw [merged_nil_of_nodup ps hN] at dd
     have hz : vs.length <= sizeLine:=by
      have h1:=Paired.length a2
      omega
     refine ⟨.ref s.heap.objs.size,_,I.laid (a:=s.heap.objs.size) (o:=.dK vs) (h':=h') (t':=tk) kp (Nat.le_refl _) ⟨hz,beq_eq_false_iff_ne.mpr (Nat.ne_of_gt I.big),ps,a2,dd⟩,rfl,?_⟩
     exact k _ _ _ _ (upd_tupLe hp) (sh.newDk hp a1) .ofRef (q _ (sh.fresh hp))
   | _ => exact h.elim
end
end L3
namespace M
open PySem PySem.Spec PyProof.Rows L2 L3
theorem bt_dict : bootBuiltins "dict" = some (.type "dict"):=by decide +kernel
noncomputable def oE (o : Option T) : T:=o.getD .non
def IsF (o : Option T) : Prop:=∀ t,o = some t -> shn 1 t = true /\ ∃ a r,t = .tup (a :: r)
theorem IsF.none : IsF none:=fun _ h => (nomatch h)
theorem IsF.map {α : Type} {o : Option α} {f : α -> T} (h : ∀ x,shn 1 (f x) = true /\ ∃ a r,f x = .tup (a :: r)) : IsF (o.map f):=fun t e => by
 obtain ⟨x,_,rfl⟩:=Option.map_eq_some_iff.mp e
 exact h x
theorem IsF.or {a b : Option T} (ha : IsF a) (hb : IsF b) : IsF (a.or b):=fun t e => by
 cases a with
 | none => exact hb t e
 | some x => exact ha t e
theorem IsF.shn {o : Option T} (h : IsF o) : shn 1 (oE o) = true:=by
 cases o with
 | none => rfl
 | some t => exact (h t rfl).1
theorem or_step {o : Option T} (h : IsF o) {p : Prop} {Q : T -> Prop} (h1 : o = none -> p) (h2 : ∀ t,o = some t -> Q t) : orq (oE o) p (Q (oE o)):=by
 cases o with
 | none => exact h1 rfl
 | some t =>
  obtain ⟨_,a,r,e⟩:=h t rfl
  subst e
  exact h2 _ rfl
noncomputable def kstp (ks : List Str) (n : Str) : List Str:=if n ∈ ks then ks else ks ++ [n]
noncomputable def kst (ks xs : List Str) : List Str:=xs.foldl kstp ks
noncomputable def fst' (k : Nat) (f : Str -> Nat) (xs : List Str) : Str -> Nat:=xs.foldl (fun f n => fu f n k) f
noncomputable def kD (D : List (List Str)) : List Str:=kst [] D.flatten
noncomputable def fD (D : List (List Str)) : Str -> Nat:=D.zipIdx.foldl (fun f p => fst' p.2 f p.1) (fun _ => 0)
theorem kst_snoc (ks xs : List Str) (n : Str) : kst ks (xs ++ [n]) = kstp (kst ks xs) n:=by unfold kst; rw [List.foldl_append]; rfl
theorem fst_snoc (k : Nat) (f : Str -> Nat) (xs : List Str) (n : Str) : fst' k f (xs ++ [n]) = fu (fst' k f xs) n k:=by unfold fst'; rw [List.foldl_append]; rfl
theorem kD_snoc (A : List (List Str)) (s : List Str) : kD (A ++ [s]) = kst (kD A) s:=by unfold kD kst; rw [List.flatten_append,List.foldl_append,List.flatten_singleton]
theorem fD_snoc (A : List (List Str)) (s : List Str) : fD (A ++ [s]) = fst' A.length (fD A) s:=by
 unfold fD
 rw [List.zipIdx_append,List.foldl_append]
 simp
theorem put_kst (ks : List Str) (f : Str -> Nat) (n : Str) (k : Nat) : put3 n (T.int (k : Int)) (dN ks f) = dN (kstp ks n) (fu f n k):=by
 unfold kstp
 split
 ·
  rename_i h; exact dN_put h
 ·
  rename_i h; exact dN_new h
theorem mem_kst (x : Str) : ∀ (xs ks : List Str),x ∈ kst ks xs ↔ x ∈ ks \/ x ∈ xs
 | [],ks => by simp [kst]
 | n :: r,ks => by
  show x ∈ kst (kstp ks n) r ↔ _
  rw [mem_kst x r]
  unfold kstp
  by_cases h : n ∈ ks
  ·
   rw [if_pos h,List.mem_cons]
   constructor
   ·
    rintro (a | a)
    ·
     exact .inl a
    ·
     exact .inr (.inr a)
   ·
    rintro (a | rfl | a)
    ·
     exact .inl a
    ·
     exact .inl h
    ·
     exact .inr a
  ·
   rw [if_neg h,List.mem_append,List.mem_singleton,List.mem_cons,or_assoc]
theorem kst_len : ∀ (xs ks : List Str),(kst ks xs).length <= ks.length + xs.length
 | [],ks => Nat.le_refl _
 | n :: r,ks => by
  have h:=kst_len r (kstp ks n)
  have h2 : (kstp ks n).length <= ks.length + 1:=by unfold kstp; split <;> simp
  show (kst (kstp ks n) r).length <= _
  rw [List.length_cons]
  omega
theorem mem_kD {x : Str} {D : List (List Str)} : x ∈ kD D ↔ x ∈ D.flatten:=by
 unfold kD
 rw [mem_kst]
 simp
theorem kD_len (D : List (List Str)) : (kD D).length <= D.flatten.length:=by
 have:=kst_len D.flatten []
 simpa [kD] using this
theorem dN_no {f : Str -> Nat} {n : Str} : ∀ {ns : List Str},n ∉ ns -> look3 n (dN ns f) = none
 | [],_ => rfl
 | x :: r,h => by
  unfold dN
  rw [List.map_cons]
  unfold look3
  rw [if_neg (fun e => h (by rw [<- e]; exact List.mem_cons_self))]
  exact dN_no fun z => h (List.mem_cons_of_mem _ z)
theorem dN_is (ns : List Str) (f : Str -> Nat) (n : Str) : (look3 n (dN ns f)).isSome = decide (n ∈ ns):=by
 by_cases h : n ∈ ns
 ·
  rw [dN_look h,decide_eq_true h]; rfl
 ·
  rw [dN_no h,decide_eq_false h]; rfl
noncomputable def kN (ts : List (Str × Int × List Str)) : List (Str × T):=ts.map fun t => (t.1,sT t.2.2)
noncomputable def kdOf (ts : List (Str × Int × List Str)) (n : Str) : List Str:=match ts.find? (fun t => decide (t.1 = n)) with
 | some t => t.2.2
 | none => []
theorem kN_look {n : Str} : ∀ {ts : List (Str × Int × List Str)},n ∈ ts.map (·.1) -> look3 n (kN ts) = some (sT (kdOf ts n))
 | t :: r,h => by
  unfold kN kdOf
  rw [List.map_cons,List.find?_cons]
  unfold look3
  by_cases e : t.1 = n
  ·
   rw [if_pos e,decide_eq_true e]
  ·
   rw [if_neg e,decide_eq_false e]
   exact kN_look (ts:=r) ((List.mem_cons.mp (show n ∈ t.1 :: r.map (·.1) from h)).resolve_left (Ne.symm e))
theorem kN_new {ts : List (Str × Int × List Str)} {t : Str × Int × List Str} (h : t.1 ∉ ts.map (·.1)) : put3 t.1 (sT t.2.2) (kN ts) = kN (ts ++ [t]):=by
 unfold put3 kN
 rw [if_neg (by
  intro e
  rw [List.any_eq_true] at e
  obtain ⟨x,hx,e⟩:=e
  obtain ⟨y,hy,rfl⟩:=List.mem_map.mp hx
  exact h (of_decide_eq_true e ▸ List.mem_map.mpr ⟨y,hy,rfl⟩)),List.map_append]
 rfl
theorem kN_len (ts : List (Str × Int × List Str)) : (kN ts).length = ts.length:=List.length_map _
noncomputable def numF (row : List Str) (D : List (List Str)) : Option T:=if D.length > row.length then some (.tup [.str "stands",.int (D.length : Int)]) else none
noncomputable def strF (ns xs : List Str) : Option T:=(xs.find? fun x => !decide (x ∈ ns)).map fun x => .tup [.str "strange",.str x]
noncomputable def twG : List Str -> List Str -> Option Str
 | _,[] => none
 | sn,x :: r => if x ∈ sn then some x else twG (sn ++ [x]) r
noncomputable def twF (xs : List Str) : Option T:=(twG [] xs).map fun x => .tup [.str "twice",.str x]
noncomputable def losF (ns xs : List Str) : Option T:=(ns.find? fun n => !decide (n ∈ xs)).map fun n => .tup [.str "lost",.str n]
noncomputable def ordF (f : Str -> Nat) (os : List (Str × Str)) : Option T:=(os.find? fun o => decide (f o.2 < f o.1)).map fun o => .tup [.str "order",.str o.1,.str o.2]
noncomputable def paiF (f : Str -> Nat) (ps : List (Str × Str × Str)) : Option T:=(ps.find? fun p => decide (f p.2.1 = f p.2.2) != decide (p.1 = ("with" : Str))).map fun p => .tup [.str p.1,.str p.2.1,.str p.2.2]
noncomputable def okK (ks : List Str) (k : Str) : Bool:=decide (ks = []) || decide (k ∈ ks)
noncomputable def kinG (kd : Str -> List Str) (row : List Str) : Nat -> List (List Str) -> Option T
 | _,[] => none
 | k,s :: r => match s.find? fun n => !okK (kd n) (row.getD k "") with
  | some n => some (.tup [.str "kind",.str n,.int (k : Int)])
  | none => kinG kd row (k + 1) r
noncomputable def beaG (g : List Str -> Int) (beat : Int) : Nat -> List (List Str) -> Option T
 | _,[] => none
 | k,s :: r => if g s > beat then some (.tup [.str "beat",.int (k : Int)]) else beaG g beat (k + 1) r
noncomputable def tskF (W : Wk) (D : List (List Str)) : Option T:=(numF W.row D).or ((strF (W.tasks.map (·.1)) D.flatten).or ((twF D.flatten).or (losF (W.tasks.map (·.1)) D.flatten)))
noncomputable def namF (ns xs : List Str) : Option T:=(strF ns xs).or ((twF xs).or (losF ns xs))
noncomputable def laiF (W : Wk) (beat : Int) (D : List (List Str)) : Option T:=(ordF (fD D) W.orders).or ((paiF (fD D) W.pairs).or ((kinG (kdOf W.tasks) W.row 0 D).or (beaG (ld W.tasks) beat 0 D)))
noncomputable def flt (W : Wk) (beat : Int) (D : List (List Str)) : Option T:=(tskF W D).or (laiF W beat D)
theorem isF_num (row : List Str) (D : List (List Str)) : IsF (numF row D):=fun t e => by
 unfold numF at e
 split at e
 ·
  cases e; exact ⟨rfl,_,_,rfl⟩
 ·
  cases e
theorem isF_str (ns xs : List Str) : IsF (strF ns xs):=IsF.map fun x => ⟨rfl,_,_,rfl⟩
theorem isF_tw (xs : List Str) : IsF (twF xs):=IsF.map fun x => ⟨rfl,_,_,rfl⟩
theorem isF_los (ns xs : List Str) : IsF (losF ns xs):=IsF.map fun x => ⟨rfl,_,_,rfl⟩
theorem isF_ord (f : Str -> Nat) (os : List (Str × Str)) : IsF (ordF f os):=IsF.map fun x => ⟨rfl,_,_,rfl⟩
theorem isF_pai (f : Str -> Nat) (ps : List (Str × Str × Str)) : IsF (paiF f ps):=IsF.map fun x => ⟨rfl,_,_,rfl⟩
theorem isF_kin (kd : Str -> List Str) (row : List Str) : ∀ (D : List (List Str)) (k : Nat),IsF (kinG kd row k D)
 | [],k => IsF.none
 | s :: r,k => fun t e => by
  unfold kinG at e
  split at e
  ·
   cases e; exact ⟨rfl,_,_,rfl⟩
  ·
   exact isF_kin kd row r (k + 1) t e
theorem isF_bea (g : List Str -> Int) (beat : Int) : ∀ (D : List (List Str)) (k : Nat),IsF (beaG g beat k D)
 | [],k => IsF.none
 | s :: r,k => fun t e => by
  unfold beaG at e
  split at e
  ·
   cases e; exact ⟨rfl,_,_,rfl⟩
  ·
   exact isF_bea g beat r (k + 1) t e
theorem isF_nam (ns xs : List Str) : IsF (namF ns xs):=(isF_str _ _).or ((isF_tw _).or (isF_los _ _))
theorem isF_tsk (W : Wk) (D : List (List Str)) : IsF (tskF W D):=(isF_num _ _).or ((isF_str _ _).or ((isF_tw _).or (isF_los _ _)))
theorem isF_lai (W : Wk) (beat : Int) (D : List (List Str)) : IsF (laiF W beat D):=(isF_ord _ _).or ((isF_pai _ _).or ((isF_kin _ _ _ _).or (isF_bea _ _ _ _)))
theorem isF_flt (W : Wk) (beat : Int) (D : List (List Str)) : IsF (flt W beat D):=(isF_tsk _ _).or (isF_lai _ _ _)
theorem find_hit {α : Type} {p : α -> Bool} {A B : List α} {x : α} (h : ∀ a ∈ A,p a = false) (hx : p x = true) : (A ++ x :: B).find? p = some x:=by
 rw [List.find?_append,List.find?_eq_none.mpr (fun a ha => by rw [h a ha]; exact Bool.false_ne_true),List.find?_cons,hx]
 rfl
theorem find_no {α : Type} {p : α -> Bool} {A : List α} (h : ∀ a ∈ A,p a = false) : A.find? p = none:=List.find?_eq_none.mpr fun a ha => by rw [h a ha]; exact Bool.false_ne_true
theorem str_none {ns xs : List Str} (h : strF ns xs = none) : ∀ x ∈ xs,x ∈ ns:=fun x hx => by
 unfold strF at h
 rw [Option.map_eq_none_iff,List.find?_eq_none] at h
 have:=h x hx
 simpa using this
theorem los_none {ns xs : List Str} (h : losF ns xs = none) : ∀ n ∈ ns,n ∈ xs:=fun x hx => by
 unfold losF at h
 rw [Option.map_eq_none_iff,List.find?_eq_none] at h
 have:=h x hx
 simpa using this
theorem twG_hit {sn : List Str} {x : Str} {B : List Str} : ∀ {A : List Str},(sn ++ A).Nodup -> x ∈ sn ++ A -> twG sn (A ++ x :: B) = some x
 | [],_,h => by
  show twG sn (x :: B) = _
  unfold twG
  rw [if_pos (by simpa using h)]
 | a :: A,hn,h => by
  show twG sn (a :: (A ++ x :: B)) = _
  unfold twG
  have ha : a ∉ sn:=fun z => by
   rw [List.nodup_append] at hn
   exact hn.2.2 a z a List.mem_cons_self rfl
  rw [if_neg ha]
  exact twG_hit (by simpa using hn) (by simpa using h)
theorem twG_no {sn : List Str} : ∀ {A : List Str},(sn ++ A).Nodup -> twG sn A = none
 | [],_ => rfl
 | a :: A,hn => by
  unfold twG
  have ha : a ∉ sn:=fun z => by
   rw [List.nodup_append] at hn
   exact hn.2.2 a z a List.mem_cons_self rfl
  rw [if_neg ha]
  exact twG_no (by simpa using hn)
theorem twG_nd : ∀ {A sn : List Str},sn.Nodup -> twG sn A = none -> (sn ++ A).Nodup
 | [],sn,hs,_ => by simpa using hs
 | a :: A,sn,hs,h => by
  unfold twG at h
  split at h
  ·
   cases h
  ·
   rename_i ha
   have:=twG_nd (A:=A) (sn:=sn ++ [a]) (nd_snoc hs ha) h
   simpa using this
theorem tw_none {xs : List Str} (h : twF xs = none) : xs.Nodup:=by
 unfold twF at h
 rw [Option.map_eq_none_iff] at h
 simpa using twG_nd (sn:=[]) List.nodup_nil h
theorem num_none {row : List Str} {D : List (List Str)} (h : numF row D = none) : D.length <= row.length:=by
 unfold numF at h
 split at h
 ·
  cases h
 ·
  omega
theorem or_none {a b : Option T} (h : a.or b = none) : a = none /\ b = none:=by
 cases a with
 | none => exact ⟨rfl,h⟩
 | some x => cases h
structure Dok (W : Wk) (D : List (List Str)) : Prop where
 rw : D.length <= W.row.length
 st : ∀ x ∈ D.flatten,x ∈ W.tasks.map (·.1)
 nd : D.flatten.Nodup
 al : ∀ n ∈ W.tasks.map (·.1),n ∈ D.flatten
theorem Dok.of {W : Wk} {D : List (List Str)} (h : tskF W D = none) : Dok W D:=by
 have h1:=or_none h
 have h2:=or_none h1.2
 have h3:=or_none h2.2
 exact ⟨num_none h1.1,str_none h2.1,tw_none h3.1,los_none h3.2⟩
theorem Dok.in {W : Wk} {D : List (List Str)} (h : Dok W D) {s : List Str} (hs : s ∈ D) : s.Nodup /\ ∀ n ∈ s,n ∈ W.tasks.map (·.1) :=
 ⟨(List.sublist_flatten_of_mem hs).nodup h.nd,fun n hn => h.st n (List.mem_flatten.mpr ⟨s,hs,hn⟩)⟩
theorem bea_congr {g g' : List Str -> Int} {beat : Int} : ∀ {D : List (List Str)} {k : Nat},(∀ s ∈ D,g s = g' s) -> beaG g beat k D = beaG g' beat k D
 | [],_,_ => rfl
 | s :: r,k,h => by
  unfold beaG
  rw [h s List.mem_cons_self,bea_congr fun x hx => h x (List.mem_cons_of_mem _ hx)]
theorem kin_hit {kd : Str -> List Str} {row : List Str} {s : List Str} {n : Str} {B : List (List Str)} : ∀ {A : List (List Str)} {k : Nat},(∀ j s',A[j]? = some s' -> ∀ n ∈ s',okK (kd n) (row.getD (k + j) "") = true) -> (s.find? fun n => !okK (kd n) (row.getD (k + A.length) "")) = some n ->
  kinG kd row k (A ++ s :: B) = some (.tup [.str "kind",.str n,.int ((k + A.length : Nat) : Int)])
 | [],k,_,h => by
  show kinG kd row k (s :: B) = _
  unfold kinG
  rw [show k + ([] : List (List Str)).length = k from rfl] at h
  rw [h]
  rfl
 | a :: A,k,hA,h => by
  show kinG kd row k (a :: (A ++ s :: B)) = _
  unfold kinG
  rw [find_no (fun x hx => by have q:=hA 0 a rfl x hx; rw [Nat.add_zero] at q; rw [q]; rfl)]
  have e : k + (a :: A).length = (k + 1) + A.length:=by rw [List.length_cons]; omega
  rw [e] at h ⊢
  exact kin_hit (fun j s' hj n hn => by have:=hA (j + 1) s' hj n hn; rwa [show k + (j + 1) = k + 1 + j by omega] at this) h
theorem kin_no {kd : Str -> List Str} {row : List Str} : ∀ {A : List (List Str)} {k : Nat},(∀ j s',A[j]? = some s' -> ∀ n ∈ s',okK (kd n) (row.getD (k + j) "") = true) -> kinG kd row k A = none
 | [],_,_ => rfl
 | a :: A,k,hA => by
  unfold kinG
  rw [find_no (fun x hx => by have q:=hA 0 a rfl x hx; rw [Nat.add_zero] at q; rw [q]; rfl)]
  exact kin_no (fun j s' hj n hn => by have:=hA (j + 1) s' hj n hn; rwa [show k + (j + 1) = k + 1 + j by omega] at this)
theorem bea_hit {g : List Str -> Int} {beat : Int} {s : List Str} {B : List (List Str)} : ∀ {A : List (List Str)} {k : Nat},(∀ s' ∈ A,g s' <= beat) -> g s > beat -> beaG g beat k (A ++ s :: B) = some (.tup [.str "beat",.int ((k + A.length : Nat) : Int)])
 | [],k,_,h => by
  show beaG g beat k (s :: B) = _
  unfold beaG
  rw [if_pos h]
  rfl
 | a :: A,k,hA,h => by
  show beaG g beat k (a :: (A ++ s :: B)) = _
  unfold beaG
  have:=hA a List.mem_cons_self
  rw [if_neg (by omega),bea_hit (fun x hx => hA x (List.mem_cons_of_mem _ hx)) h,List.length_cons,show k + 1 + A.length = k + (A.length + 1) by omega]
theorem bea_no {g : List Str -> Int} {beat : Int} : ∀ {A : List (List Str)} {k : Nat},(∀ s' ∈ A,g s' <= beat) -> beaG g beat k A = none
 | [],_,_ => rfl
 | a :: A,k,hA => by
  unfold beaG
  have:=hA a List.mem_cons_self
  rw [if_neg (by omega),bea_no fun x hx => hA x (List.mem_cons_of_mem _ hx)]
theorem flat_pre {A : List (List Str)} {s : List Str} {B : List (List Str)} : (A ++ s :: B).flatten = A.flatten ++ (s ++ B.flatten):=by rw [List.flatten_append,List.flatten_cons]
theorem memS {x : Str} {xs : List Str} : memB true (T.str x) (xs.map T.str) = !decide (x ∈ xs):=by
 rw [Bool.eq_iff_iff,memN str_inj]; simp
theorem memS' {x : Str} {xs : List Str} : memB false (T.str x) (xs.map T.str) = decide (x ∈ xs):=by
 rw [Bool.eq_iff_iff,memI str_inj]; simp
theorem iter_enum {α : Type} (enc : α -> T) (xs : List α) {g : TG3} {tb : TS3} {D : Ends3} {still : Hp3 -> Prop} {σ : St3} {H : Hp3} (I : List α -> St3 -> Hp3 -> Prop) (h0 : I [] σ H) (hn : ∀ σ H,I xs σ H -> still H /\ D.nx σ H)
  (hs : ∀ A x B σ H (N : St3 -> Hp3 -> Prop),xs = A ++ x :: B -> I A σ H -> (∀ σ' H',I (A ++ [x]) σ' H' -> N σ' H') -> still H /\ g (.tup [.int (A.length : Int),enc x]) σ H fun σ2 H2 => tb { D with nx:=N,ct:=N,bk:=D.nx } σ2 H2) : iter3 g tb D still (enum0 0 (xs.map enc)) σ H:=by
 have : ∀ (B A : List α) (σ : St3) (H : Hp3),xs = A ++ B -> I A σ H -> iter3 g tb D still (enum0 (A.length : Int) (B.map enc)) σ H:=by
  intro B
  induction B with
  | nil => intro A σ H e h; rw [List.append_nil] at e; subst e; exact hn σ H h
  | cons x B ih =>
   intro A σ H e h
   refine hs A x B σ H _ e h fun σ' H' h' => ?_
   have q:=ih (A ++ [x]) σ' H' (by rw [e,List.append_assoc]; rfl) h'
   rw [List.length_append,List.length_singleton,Int.natCast_add] at q
   exact q
 exact this xs [] σ H rfl h0
theorem iter_rng {α : Type} (xs : List α) {g : TG3} {tb : TS3} {D : Ends3} {still : Hp3 -> Prop} {σ : St3} {H : Hp3} (I : List α -> St3 -> Hp3 -> Prop) (h0 : I [] σ H) (hn : ∀ σ H,I xs σ H -> still H /\ D.nx σ H)
  (hs : ∀ A x B σ H (N : St3 -> Hp3 -> Prop),xs = A ++ x :: B -> I A σ H -> (∀ σ' H',I (A ++ [x]) σ' H' -> N σ' H') -> still H /\ g (.int (A.length : Int)) σ H fun σ2 H2 => tb { D with nx:=N,ct:=N,bk:=D.nx } σ2 H2) : iter3 g tb D still (rng3 0 xs.length) σ H:=by
 have st : ∀ (k : Int) (n : Nat),rng3 k (n + 1) = .int k :: rng3 (k + 1) n:=fun k n => by
  unfold rng3
  rw [List.range_succ_eq_map,List.map_cons,List.map_map]
  congr 1
  ·
   simp
  ·
   refine List.map_congr_left fun i _ => ?_
   show T.int (k + ((i + 1 : Nat) : Int)) = _
   congr 1
   omega
 have : ∀ (B A : List α) (σ : St3) (H : Hp3),xs = A ++ B -> I A σ H -> iter3 g tb D still (rng3 (A.length : Int) B.length) σ H:=by
  intro B
  induction B with
  | nil => intro A σ H e h; rw [List.append_nil] at e; subst e; exact hn σ H h
  | cons x B ih =>
   intro A σ H e h
   rw [List.length_cons,st]
   refine hs A x B σ H _ e h fun σ' H' h' => ?_
   have q:=ih (A ++ [x]) σ' H' (by rw [e,List.append_assoc]; rfl) h'
   rw [List.length_append,List.length_singleton,Int.natCast_add] at q
   exact q
 exact this xs [] σ H rfl h0
theorem at_pre {α : Type} (enc : α -> T) {A B : List α} {x : α} : atI ((A ++ x :: B).map enc) (A.length : Int) = some (enc x):=atI_nat (by rw [List.getElem?_map,List.getElem?_append_right (Nat.le_refl _)]; simp)
noncomputable def dB (ks : List Str) : List (Str × T):=ks.map fun n => (n,T.bl true)
theorem dB_is (n : Str) : ∀ ks : List Str,(look3 n (dB ks)).isSome = decide (n ∈ ks)
 | [] => by simp [dB,look3]
 | x :: r => by
  unfold dB
  rw [List.map_cons]
  unfold look3
  by_cases e : x = n
  ·
   rw [if_pos e]; simp [e]
  ·
   rw [if_neg e]
   have:=dB_is n r
   unfold dB at this
   rw [this]
   simp [Ne.symm e]
theorem dB_new {ks : List Str} {n : Str} (h : n ∉ ks) : put3 n (T.bl true) (dB ks) = dB (ks ++ [n]):=by
 unfold put3 dB
 rw [if_neg (by
  intro e
  rw [List.any_eq_true] at e
  obtain ⟨x,hx,e⟩:=e
  obtain ⟨y,hy,rfl⟩:=List.mem_map.mp hx
  exact h (of_decide_eq_true e ▸ hy)),List.map_append]
 rfl
theorem dB_len (ks : List Str) : (dB ks).length = ks.length:=List.length_map _
theorem q_ixHr (ts : List T) (i : Int) (H : Hp3) (Q : VK3) : ixH (some (.rol ts)) i H Q = oq (atI ts i) fun t => Q t H:=rfl
def spNm : Sp3:=fun ts H Q => ∃ (a b : Addr) (ns xs : List Str),ts = [.ref a,.ref b] /\ H a = some (.lst (ns.map T.str)) /\ H b = some (.lst (xs.map T.str)) /\ ns.length <= 1000 /\ xs.length <= 1000 /\ Q (oE (namF ns xs)) H
def spLa : Sp3:=fun ts H Q => ∃ (W : Wk) (beat : Int) (D : List (List Str)),ts = [W.enc,.int beat,.tup (D.map sT)] /\ WkOk W /\ D.flatten.length <= 1000 /\ Dok W D /\ Q (oE (laiF W beat D)) H
def spBt : Sp3:=fun ts H Q => ∃ (d : Addr) (W : Wk),ts = [.ref d,W.enc] /\ WkOk W /\ Cl H d /\ ∀ (n : Int) (H' : Hp3),Drw d H H' -> Q (.int n) H'
def spTx : Sp3:=fun ts H Q => ∃ D : List (List Str),ts = [.tup (D.map sT)] /\ D.flatten.length <= 1000 /\ ∀ p,H p = none -> Q (.ref p) (up3 H p (.lst (D.flatten.map T.str)))
def spSt : Sp3:=fun ts H Q => ∃ D : List (List Str),ts = [.tup (D.map sT)] /\ D.flatten.length <= 1000 /\ ∀ p,H p = none -> Q (.ref p) (up3 H p (.dct (dN (kD D) (fD D))))
def spAt : Sp3:=fun ts H Q => ∃ D : List (List Str),ts = [.tup (D.map sT)] /\ D.flatten.length <= 1000 /\ D.length <= 1000 /\ ∀ p,H p = none -> Q (.ref p) (up3 H p (.dct (dN (kD D) (fD D))))
def spNO : Sp3:=fun ts H Q => ∃ tk : List (Str × Int × List Str),ts = [.tup (tk.map tkT)] /\ tk.length <= 8 /\ ∀ p,H p = none -> Q (.ref p) (up3 H p (.lst ((tk.map (·.1)).map T.str)))
def spMy : Sp3:=fun ts H Q => ∃ (ks : List Str) (k : Str),ts = [sT ks,.str k] /\ Q (.bl (okK ks k)) H
def spNf : Sp3:=fun ts H Q => ∃ (W : Wk) (D : List (List Str)),ts = [W.enc,.tup (D.map sT)] /\ Q (oE (numF W.row D)) H
def spSf : Sp3:=fun ts H Q => ∃ (W : Wk) (D : List (List Str)),ts = [W.enc,.tup (D.map sT)] /\ WkOk W /\ D.flatten.length <= 1000 /\ Q (oE (strF (W.tasks.map (·.1)) D.flatten)) H
def spTf : Sp3:=fun ts H Q => ∃ (D : List (List Str)),ts = [.tup (D.map sT)] /\ D.flatten.length <= 1000 /\ Q (oE (twF D.flatten)) H
def spLf : Sp3:=fun ts H Q => ∃ (W : Wk) (D : List (List Str)),ts = [W.enc,.tup (D.map sT)] /\ WkOk W /\ D.flatten.length <= 1000 /\ Q (oE (losF (W.tasks.map (·.1)) D.flatten)) H
def spOf : Sp3:=fun ts H Q => ∃ (W : Wk) (D : List (List Str)),ts = [W.enc,.tup (D.map sT)] /\ WkOk W /\ D.flatten.length <= 1000 /\ Dok W D /\ Q (oE (ordF (fD D) W.orders)) H
def spPf : Sp3:=fun ts H Q => ∃ (W : Wk) (D : List (List Str)),ts = [W.enc,.tup (D.map sT)] /\ WkOk W /\ D.flatten.length <= 1000 /\ Dok W D /\ Q (oE (paiF (fD D) W.pairs)) H
def spKf : Sp3:=fun ts H Q => ∃ (W : Wk) (D : List (List Str)),ts = [W.enc,.tup (D.map sT)] /\ WkOk W /\ D.flatten.length <= 1000 /\ Dok W D /\ Q (oE (kinG (kdOf W.tasks) W.row 0 D)) H
def spBf : Sp3:=fun ts H Q => ∃ (W : Wk) (beat : Int) (D : List (List Str)),ts = [W.enc,.int beat,.tup (D.map sT)] /\ WkOk W /\ Dok W D /\ Q (oE (beaG (ld W.tasks) beat 0 D)) H
def spTk : Sp3:=fun ts H Q => ∃ (W : Wk) (D : List (List Str)),ts = [W.enc,.tup (D.map sT)] /\ WkOk W /\ D.flatten.length <= 1000 /\ Q (oE (tskF W D)) H
def spFo : Sp3:=fun ts H Q => ∃ (W : Wk) (beat : Int) (D : List (List Str)),ts = [W.enc,.int beat,.tup (D.map sT)] /\ WkOk W /\ D.flatten.length <= 1000 /\ D.length <= 1000 /\ Q (oE (flt W beat D)) H
end M
namespace M
open PySem PySem.Spec PyProof.Rows L2 L3
def spWr : Sp3:=fun ts H Q => ∃ (d : Addr) (lst most st : Int),ts = [.ref d,.int lst,.int most,.int st] /\ 1 <= lst /\ 1 <= most /\ lst + most <= 9 /\ 1 <= st /\ st <= 8 /\ Cl H d /\ ∀ (W : Wk) (H' : Hp3),WkOk W -> (W.tasks.length : Int) <= lst + most - 1 -> (W.row.length : Int) <= st -> Drw d H H' -> Q W.enc H'
structure Bd (L : Nat) (D : List (List Str)) : Prop where
 lo : 1 <= D.length
 hi : D.length <= 9
 ln : ∀ s ∈ D,s.length <= L
theorem flat_le {L : Nat} : ∀ {D : List (List Str)},(∀ s ∈ D,s.length <= L) -> D.flatten.length <= D.length * L
 | [],_ => by simp
 | s :: r,h => by
  have h1:=flat_le (D:=r) fun x hx => h x (List.mem_cons_of_mem _ hx)
  have h2:=h s List.mem_cons_self
  rw [List.flatten_cons,List.length_append,List.length_cons,Nat.add_mul]
  omega
def spPu : Sp3:=fun ts H Q => ∃ (a : Addr) (D : List (List Str)) (i : Nat) (x : Str) (pl : Int),ts = [.ref a,.int (i : Int),.str x,.int pl] /\ H a = some (.lst (D.map sT)) /\ i < D.length /\ D.length <= 9 /\ (∀ s ∈ D,s.length <= 100) /\
 ∀ (D' : List (List Str)) (p : Addr),D'.length = D.length -> (∀ L,(∀ s ∈ D,s.length <= L) -> ∀ s ∈ D',s.length <= L + 1) -> H p = none -> Q (.ref p) (up3 H p (.lst (D'.map sT)))
def spTe : Sp3:=fun ts H Q => ∃ (d : Addr),ts = [.ref d] /\ Cl H d /\ ∀ (y : Str) (H' : Hp3),Drw d H H' -> Q (.str y) H'
def spSp : Sp3:=fun ts H Q => ∃ (d a : Addr) (W : Wk) (D : List (List Str)) (L : Nat),ts = [.ref d,W.enc,.ref a] /\ a ≠ d /\ WkOk W /\ Cl H d /\ H a = some (.lst (D.map sT)) /\ Bd L D /\ L <= 100 /\
 ∀ (D' : List (List Str)) (H1 : Hp3) (p : Addr),Bd (L + 1) D' -> Drw d H H1 -> H1 p = none -> Q (.ref p) (up3 H1 p (.lst (D'.map sT)))
theorem jOk_le : ∀ {ss : List Str},(∀ s ∈ ss,s.length <= 1) -> ss.length <= 100 -> jOk "" ss:=by
 intro ss h hl
 unfold jOk
 have h1 : ∀ l : List Str,(∀ s ∈ l,s.length <= 1) -> (l.map (·.length)).sum <= l.length:=fun l => by
  induction l with
  | nil => intro _; exact Nat.le_refl _
  | cons c r ih =>
   intro h
   have a:=ih fun s hs => h s (List.mem_cons_of_mem _ hs)
   have b:=h c List.mem_cons_self
   simp only [List.map_cons,List.sum_cons,List.length_cons]
   omega
 have h2:=h1 ss h
 have h3 : ("" : Str).length = 0:=by decide +kernel
 rw [h3,Nat.mul_zero]
 omega
theorem at_last {xs : List T} {x : T} : atI (xs ++ [x]) (-1) = some x:=by
 have e : ixN (xs ++ [x]).length (-1) = some xs.length:=by
  unfold ixN
  rw [List.length_append,List.length_singleton]
  have h1 : ¬ ((0 : Int) <= -1):=by decide
  simp only [h1,if_false]
  first
   | (rw [if_pos (by omega)]; congr 1; omega)
   | (split <;> first | (congr 1; omega) | omega)
 unfold atI
 rw [e]
 show (xs ++ [x])[xs.length]? = some x
 simp
theorem mem_less {xs : List Str} {f : Str -> Nat} {m : Nat} (hf : ∀ n,f n < m) (z n : Str) : n ∈ ((dealt xs f m).map fun s => s.filter fun n => !decide (n = z)).flatten ↔ n ∈ xs /\ n ≠ z:=by
 unfold dealt
 rw [List.map_map,List.mem_flatten]
 constructor
 ·
  rintro ⟨s,hs,hn⟩
  obtain ⟨k,_,rfl⟩:=List.mem_map.mp hs
  have h1:=List.mem_filter.mp hn
  have h2:=List.mem_filter.mp h1.1
  exact ⟨h2.1,by simpa using h1.2⟩
 ·
  rintro ⟨h1,h2⟩
  exact ⟨_,List.mem_map.mpr ⟨f n,List.mem_range.mpr (hf n),rfl⟩,List.mem_filter.mpr ⟨List.mem_filter.mpr ⟨h1,by simp⟩,by simpa using h2⟩⟩
theorem nd_less {xs : List Str} (nd : xs.Nodup) (f : Str -> Nat) (m : Nat) (z : Str) : ((dealt xs f m).map fun s => s.filter fun n => !decide (n = z)).flatten.Nodup:=by
 unfold dealt
 rw [List.map_map]
 unfold List.Nodup
 rw [List.pairwise_flatten]
 refine ⟨fun s hs => ?_,?_⟩
 ·
  obtain ⟨k,_,rfl⟩:=List.mem_map.mp hs
  exact (List.filter_sublist.trans List.filter_sublist).nodup nd
 ·
  rw [List.pairwise_map]
  refine List.Pairwise.imp (fun {i j} hij => ?_) List.pairwise_lt_range
  intro a h1 b h2 hab
  subst hab
  have q1:=(List.mem_filter.mp (List.mem_filter.mp h1).1).2
  have q2:=(List.mem_filter.mp (List.mem_filter.mp h2).1).2
  simp only [decide_eq_true_eq] at q1 q2
  omega
theorem lost_last {W : Wk} (hW : WkOk W) {xs : List Str} {f : Str -> Nat} {m : Nat} (hp : xs.Perm (W.tasks.map (·.1))) (mr : m <= W.row.length) (hf : ∀ n,f n < m) {tk : List (Str × Int × List Str)} {t : Str × Int × List Str} (e : W.tasks = tk ++ [t]) (beat : Int) :
  flt W beat ((dealt xs f m).map fun s => s.filter fun n => !decide (n = t.1)) = some (.tup [.str "lost",.str t.1]):=by
 have nd:=hW.nd
 have hx : ∀ n,n ∈ xs ↔ n ∈ W.tasks.map (·.1):=fun n => hp.mem_iff
 have hnx:=hp.nodup_iff.mpr nd
 rw [e,List.map_append,List.nodup_append] at nd
 have h1 : numF W.row ((dealt xs f m).map fun s => s.filter fun n => !decide (n = t.1)) = none:=by
  unfold numF
  rw [List.length_map,dealt_len,if_neg (by omega)]
 have h2 : strF (W.tasks.map (·.1)) ((dealt xs f m).map fun s => s.filter fun n => !decide (n = t.1)).flatten = none:=by
  unfold strF
  rw [find_no (fun n hn => by rw [decide_eq_true ((hx n).mp ((mem_less hf t.1 n).mp hn).1)]; rfl)]
  rfl
 have h3 : twF ((dealt xs f m).map fun s => s.filter fun n => !decide (n = t.1)).flatten = none:=by
  unfold twF
  rw [twG_no (by simpa using nd_less hnx f m t.1)]
  rfl
 have h4 : losF (W.tasks.map (·.1)) ((dealt xs f m).map fun s => s.filter fun n => !decide (n = t.1)).flatten = some (.tup [.str "lost",.str t.1]):=by
  unfold losF
  have e2 : W.tasks.map (·.1) = tk.map (·.1) ++ t.1 :: []:=by rw [e,List.map_append]; rfl
  rw [e2,find_hit]
  ·
   rfl
  ·
   intro n hn
   have hne : n ≠ t.1:=fun z => nd.2.2 n hn t.1 (by simp) z
   rw [decide_eq_true ((mem_less hf t.1 n).mpr ⟨(hx n).mpr (by rw [e2]; exact List.mem_append_left _ hn),hne⟩)]
   rfl
  ·
   rw [decide_eq_false (fun z => ((mem_less hf t.1 t.1).mp z).2 rfl)]
   rfl
 unfold flt tskF
 rw [h1,h2,h3,h4]
 rfl
end M
namespace M
open PySem PySem.Spec PyProof.Rows L2 L3
local macro_rules | `(tactic| walk_at "cp") => `(tactic| dsimp only [cap3,List.replicate,List.map_cons,List.map_nil,List.cons_append,List.nil_append,List.getElem?_cons_zero,List.getElem?_cons_succ,Option.getD_some])
local macro_rules | `(tactic| walk_at "nx") => `(tactic| (obtain ⟨e⟩:=‹Shut (_ = _)›; subst e; try dsimp only))
local macro_rules | `(tactic| walk_at "rd") => do
 let ls <- (nm0.splitOn " ").toArray.mapM fun n => let i:=Lean.mkIdent n.toName; `(Lean.Parser.Tactic.simpLemma| $i:ident)
 `(tactic| ((try dsimp only [$[$ls:simpLemma],*]); try simp only [*,$[$ls:simpLemma],*]))
section
variable {P : Program} {w : World} {K : PySem.W.Frag} {mg : Str -> Option Value} {base : Heap}
abbrev N_works : List Str:=["_law_deck","_law_least","_law_most","_law_stands","_law_names_here","_law_many","_law_turn_here","_law_orders","_law_lots","_law_i","_law_j","_law_pairs_here","_law_table","_law_kinds_here","_law_row","_law_some","_law_lengths_here","_law_tasks"]
theorem sc_works : FnScope N_works ["_law_deck","_law_least","_law_most","_law_stands"] (defScope (top 31)):=sc_mk
theorem ok_works {f : Addr} {fd : FuncData} (g : G3 K mg "_law_works" (top 31) ["_law_deck","_law_least","_law_most","_law_stands"] f fd) (B : Bl mg) (F_names : Cal P w K mg base 2 "_law_names" (top 24) ["_law_deck","_law_many"] spNa) (F_draw : Cal P w K mg base 1 "_law_draw" (top 21) ["_law_deck","_law_most"] spDr) (F_turn : Cal P w K mg base 2 "_law_turn" (top 25) ["_law_deck","_law_things"] spTu) (F_pairs : Cal P w K mg base 3 "_law_pairs" (top 28) ["_law_deck","_law_names_here","_law_orders","_law_lots"] spPr) (F_kinds : Cal P w K mg base 4 "_law_kinds" (top 30) ["_law_deck","_law_row","_law_names_here","_law_table"] spKi) (F_lengths : Cal P w K mg base 3 "_law_lengths" (top 26) ["_law_deck","_law_many"] spLg) : Cal P w K mg base 5 "_law_works" (top 31) ["_law_deck","_law_least","_law_most","_law_stands"] spWr:=by
 refine ⟨f,fd,g,?_⟩
 refine fn3 g.fn sc_works (fun ts H Q h => ?_) (fun cdv A outer s H E ts H3 Q hr h => ?_)
 ·
  obtain ⟨d,lst,most,st,rfl,_⟩:=h; rfl
 ·
  have hu30:=Room.u30 hr
  have hu31:=Room.u31 hr
  have hu1:=Room.u1 hr
  obtain ⟨d,lst,most,st,rfl,l1,m1,m8,s1,s8,hC,k⟩:=h
  refine ⟨_,(ss3_cons (s3_set (i:=4) sc_works.nd (e3_cl F_names hr rfl (a3_cons (v3 0) (a3_cons (e3_op o3_add (v3 1) (e3_cl F_draw hr rfl (a3_cons (v3 0) (a3_cons (v3 2) a3_nil)))) a3_nil))))
    (ss3_cons (s3_set (i:=5) sc_works.nd (e3_callB c3_len rfl B.len_ bt_len (a3_cons (v3 4) a3_nil)))
    (ss3_cons (s3_set (i:=6) sc_works.nd (e3_cl F_turn hr rfl (a3_cons (v3 0) (a3_cons (e3_lsRng rfl rfl B.list_ rfl B.range_ (v3 5)) a3_nil))))
    (ss3_cons (s3_set (i:=7) sc_works.nd (e3_lst a3_nil))
    (ss3_cons (s3_set (i:=8) sc_works.nd (e3_op o3_add c3_int (e3_cl F_draw hr rfl (a3_cons (v3 0) (a3_cons c3_int a3_nil)))))
    (ss3_cons (s3_for PassesOwn.never rfl (i3_range1 rfl B.range_ (a3_cons (v3 5) a3_nil)) (g3_name (i:=9) sc_works.nd) (ss3_one (s3_for PassesOwn.never rfl (i3_range2 rfl B.range_ (a3_cons (e3_op o3_add (v3 9) c3_int) (a3_cons (v3 5) a3_nil))) (g3_name (i:=10) sc_works.nd) (ss3_one (s3_if (t3_cmp (o3_eq hu30) (e3_cl F_draw hr rfl (a3_cons (v3 0) (a3_cons (v3 8) a3_nil))) c3_int) (ss3_one (s3_expr (e3_bm PySem.F.plainAttrs_list PySem.F.slot_list_append PySem.F.type_list_append m3_append (v3 7) (a3_cons (e3_tup (a3_cons (e3_ix ix3 (v3 6) (v3 9)) (a3_cons (e3_ix ix3 (v3 6) (v3 10)) a3_nil))) a3_nil)))) ss3_nil)))))
    (ss3_cons (s3_set (i:=7) sc_works.nd (e3_cl F_turn hr rfl (a3_cons (v3 0) (a3_cons (v3 7) a3_nil))))
    (ss3_cons (s3_asg (e3_cl F_pairs hr rfl (a3_cons (v3 0) (a3_cons (v3 4) (a3_cons (v3 7) (a3_cons (e3_op o3_add c3_int (e3_cl F_draw hr rfl (a3_cons (v3 0) (a3_cons c3_int a3_nil)))) a3_nil))))) (g3_tup (n:=2) rfl (gs3_cons (g3_name (i:=11) sc_works.nd) (gs3_cons (g3_name (i:=12) sc_works.nd) gs3_nil))))
    (ss3_cons (s3_set (i:=13) sc_works.nd (e3_cl F_names hr rfl (a3_cons (v3 0) (a3_cons (e3_op o3_add c3_int (e3_cl F_draw hr rfl (a3_cons (v3 0) (a3_cons c3_int a3_nil)))) a3_nil))))
    (ss3_cons (s3_setC (i:=14) rfl sc_works.nd (compSc (n0:=(defScope (top 31)).names) (N:=N_works) (N':=["_law_k","_law_kinds_here","_law_deck"]) (nt:=1) (cap:=[13,0]) rfl rfl (by decide +kernel)) (i3_range1 rfl B.range_ (a3_cons (e3_op o3_add c3_int (e3_cl F_draw hr rfl (a3_cons (v3 0) (a3_cons (v3 3) a3_nil)))) a3_nil)) (fun cl pins s H C0 fp => ⟨(g3_name (i:=0) (show List.Nodup [("_law_k" : Str),("_law_kinds_here" : Str),("_law_deck" : Str)] by decide +kernel)),if3_nil,(e3_ix ix3 (v3 1) (e3_cl F_draw hr rfl (a3_cons (v3 2) (a3_cons (e3_callB c3_len rfl B.len_ bt_len (a3_cons (v3 1) a3_nil)) a3_nil))))⟩))
    (ss3_cons (s3_set (i:=15) sc_works.nd (e3_cl F_kinds hr rfl (a3_cons (v3 0) (a3_cons (v3 14) (a3_cons (v3 13) (a3_cons (v3 12) a3_nil))))))
    (ss3_cons (s3_set (i:=16) sc_works.nd (e3_cl F_lengths hr rfl (a3_cons (v3 0) (a3_cons (v3 5) a3_nil))))
    (ss3_cons (s3_set (i:=17) sc_works.nd (e3_callTy c3_tuple rfl B.tuple_ bt_tuple (a3_cons (e3_comp rfl (compSc (n0:=(defScope (top 31)).names) (N:=N_works) (N':=["_law_k","_law_names_here","_law_lengths_here","_law_some"]) (nt:=1) (cap:=[4,16,15]) rfl rfl (by decide +kernel)) (i3_range1 rfl B.range_ (a3_cons (v3 5) a3_nil)) (fun cl pins s H C0 fp => ⟨(g3_name (i:=0) (show List.Nodup [("_law_k" : Str),("_law_names_here" : Str),("_law_lengths_here" : Str),("_law_some" : Str)] by decide +kernel)),if3_nil,(e3_tup (a3_cons (e3_ix ix3 (v3 1) (v3 0)) (a3_cons (e3_ix ix3 (v3 2) (v3 0)) (a3_cons (e3_ix ix3 (v3 3) (v3 0)) a3_nil))))⟩)) a3_nil)))
    (ss3_one (s3_ret (e3_tup (a3_cons (v3 17) (a3_cons (e3_callTy c3_tuple rfl B.tuple_ bt_tuple (a3_cons (e3_comp rfl (compSc (n0:=(defScope (top 31)).names) (N:=N_works) (N':=["_law_i","_law_j","_law_names_here"]) (nt:=2) (cap:=[4]) rfl rfl (by decide +kernel)) (i3_list (v3 7)) (fun cl pins s H C0 fp => ⟨(g3_tup (n:=2) rfl (gs3_cons (g3_name (i:=0) (show List.Nodup [("_law_i" : Str),("_law_j" : Str),("_law_names_here" : Str)] by decide +kernel)) (gs3_cons (g3_name (i:=1) (show List.Nodup [("_law_i" : Str),("_law_j" : Str),("_law_names_here" : Str)] by decide +kernel)) gs3_nil))),if3_nil,(e3_tup (a3_cons (e3_ix ix3 (v3 2) (v3 0)) (a3_cons (e3_ix ix3 (v3 2) (v3 1)) a3_nil)))⟩)) a3_nil)) (a3_cons (v3 11) (a3_cons (e3_callTy c3_tuple rfl B.tuple_ bt_tuple (a3_cons (v3 14) a3_nil)) a3_nil)))))))))))))))))))),?_⟩
  rw [show start3 N_works [T.ref d,T.int lst,T.int most,T.int st] = [some (T.ref d),some (T.int lst),some (T.int most),some (T.int st),none,none,none,none,none,none,none,none,none,none,none,none,none,none] from rfl]
  have hsz : sizeLine = 16777216:=rfl
  have k':=Box.mk k
  clear k
  have w0 : Wt d H3 H3 []:=⟨hC,Kep.refl,(fun _ h => nomatch h)⟩
  clear hC
  refine seq_cut fun R0 hR0 => ?_
  walk_at "rd"
  refine ⟨d,most,rfl,by omega,w0.cl,fun n0 H4 a0 a1 hD0 => ?_⟩
  have w1:=w0.drw hD0
  clear w0 hD0
  walk_at "rd"
  refine ⟨d,(lst + n0).toNat,by rw [Int.toNat_of_nonneg (by omega)],by omega,by omega,w1.cl,fun ws H5 pn hwl hws hD1 hpn => ?_⟩
  have w2:=(w1.drw hD1).new (o:=.lst (ws.map T.str)) hpn
  generalize up3 H5 pn (.lst (ws.map T.str)) = H6 at w2
  clear w1 hD1 hpn
  have ws1 : 1 <= ws.length:=by omega
  have ws8 : ws.length <= 8:=by omega
  have wsm : (ws.length : Int) <= lst + most - 1:=by omega
  clear hwl a0 a1
  walk_at "nx"
  refine seq_cut fun R1 hR1 => ?_
  have gn:=w2.hd
  walk_at "rd"
  walk_at "nx"
  refine seq_cut fun R2 hR2 => ?_
  walk_at "rd"
  refine ⟨⟨by omega,by omega⟩,fun q1 hq1 => ?_⟩
  have w3:=w2.new (o:=.lst ((List.range ws.length).map fun (k : Nat) => T.int (k : Int))) hq1
  have gq1:=w3.hd
  generalize up3 H6 q1 (.lst ((List.range ws.length).map fun (k : Nat) => T.int (k : Int))) = H7 at w3 gq1
  clear w2 hq1 gn
  try dsimp only
  refine ⟨d,q1,_,rfl,(w3.at' _ List.mem_cons_self).2,gq1,pl_ks _,by rw [List.length_map,List.length_range]; omega,w3.cl,fun ys H8 pt hperm hD2 hpt => ?_⟩
  obtain ⟨tv,htv,rfl⟩:=perm_inv hperm _ rfl
  have tvl : tv.length = ws.length:=by rw [htv.length_eq,List.length_range]
  have tvn : tv.Nodup:=htv.nodup_iff.mpr List.nodup_range
  have tvm : ∀ x ∈ tv,x < ws.length:=fun x hx => List.mem_range.mp (htv.mem_iff.mp hx)
  have w4:=(w3.drw hD2).tl.new (o:=.lst (tv.map fun (k : Nat) => T.int (k : Int))) hpt
  generalize up3 H8 pt (.lst (tv.map fun (k : Nat) => T.int (k : Int))) = H9 at w4
  clear w3 hD2 hpt gq1 hperm htv
  walk_at "nx"
  refine seq_cut fun R3 hR3 => ?_
  walk_at "rd"
  refine ⟨by omega,fun po hpo => ?_⟩
  have po0:=w4.fresh hpo
  have nto : pt ≠ po:=ne3n w4.hd hpo
  have nno : pn ≠ po:=ne3n w4.tl.hd hpo
  have w5:=w4.new (o:=.lst []) hpo
  generalize up3 H9 po (.lst []) = H10 at w5
  clear w4 hpo
  walk_at "nx"
  refine seq_cut fun R4 hR4 => ?_
  walk_at "rd"
  refine ⟨d,6,rfl,by decide,w5.cl,fun n1 H11 b0 b1 hD3 => ?_⟩
  have w6:=w5.drw hD3
  clear w5 hD3
  have lo0 : 3 <= 3 + n1:=by omega
  have lo1 : 3 + n1 <= 8:=by omega
  walk_at "rd"
  generalize 3 + n1 = lots at lo0 lo1
  walk_at "nx"
  refine seq_cut fun R5 hR5 => ?_
  walk_at "rd"
  refine ⟨by first | trivial | omega,by omega,by omega,?_⟩
  rw [rng_0]
  refine iter_pre (fun (i : Nat) => T.int (i : Int)) (List.range ws.length) (fun A σ H => ∃ (os : List (Nat × Nat)) (v8 v9 : Option T),σ = [some (.ref d),some (.int lst),some (.int most),some (.int st),some (.ref pn),some (.int (ws.length : Int)),some (.ref pt),some (.ref po),some (.int lots),v8,v9,none,none,none,none,none,none,none] /\ Wt d H3 H [(po,.lst (os.map (oT tv))),(pt,.lst (tv.map fun (k : Nat) => T.int (k : Int))),(pn,.lst (ws.map T.str))] /\ os.Sublist (tri ws.length A)) ⟨[],_,_,rfl,w6,List.Sublist.refl _⟩ ?_ ?_
  rotate_left
  ·
   rintro A i B σ H N e ⟨os,v8,v9,rfl,w,hsub⟩ hN
   refine ⟨trivial,?_⟩
   have hi : i < ws.length:=List.mem_range.mp (by rw [e]; simp)
   have hM:=Box.mk hN
   have hAl : (tri ws.length A).length <= 64:=by
    have h1:=range_pre e
    have h2 : A.length <= 8:=by
     have:=congrArg List.length e
     simp only [List.length_append,List.length_cons,List.length_range] at this
     omega
    have h3 : ∀ (A : List Nat),(tri ws.length A).length <= 8 * A.length:=fun A => by
     induction A with
     | nil => exact Nat.le_refl _
     | cons x r ih =>
      have e3 : tri ws.length (x :: r) = (List.range' (x + 1) (ws.length - (x + 1))).map (fun j => (x,j)) ++ tri ws.length r:=rfl
      rw [e3,List.length_append,List.length_map,List.length_range',List.length_cons]
      omega
    have:=h3 A
    omega
   clear hN e w6 k' hR5
   walk_at "rd"
   refine ⟨by first | trivial | omega,⟨by omega,by omega,by omega,by omega⟩,?_⟩
   rw [rng_2]
   refine iter_pre (fun (j : Nat) => T.int (j : Int)) (List.range' (i + 1) (ws.length - (i + 1))) (fun A2 σ H => ∃ (os : List (Nat × Nat)) (v9 : Option T),σ = [some (.ref d),some (.int lst),some (.int most),some (.int st),some (.ref pn),some (.int (ws.length : Int)),some (.ref pt),some (.ref po),some (.int lots),some (.int (i : Int)),v9,none,none,none,none,none,none,none] /\ Wt d H3 H [(po,.lst (os.map (oT tv))),(pt,.lst (tv.map fun (k : Nat) => T.int (k : Int))),(pn,.lst (ws.map T.str))] /\ os.Sublist (tri ws.length A ++ A2.map fun j => (i,j))) ⟨os,_,rfl,w,by rw [List.map_nil,List.append_nil]; exact hsub⟩ ?_ ?_
   ·
    rintro σ H ⟨os,v9,rfl,w,hsub⟩
    exact ⟨trivial,hM.out _ _ ⟨os,_,_,rfl,w,by rw [tri_snoc]; exact hsub⟩⟩
   ·
    rintro A2 j B2 σ H N2 e2 ⟨os,v9,rfl,w,hsub⟩ hN2
    refine ⟨trivial,?_⟩
    have hj:=List.mem_range'_1.mp (show j ∈ List.range' (i + 1) (ws.length - (i + 1)) by rw [e2]; simp)
    have hN':=Box.mk hN2
    have hs1:=sub_go (y:=(i,j)) hsub
    have hs2:=sub_st (y:=(i,j)) hsub
    rw [List.append_assoc,show [(i,j)] = [j].map fun j => (i,j) from rfl,<- List.map_append] at hs1 hs2
    have hA2 : A2.length < 8:=by
     have:=congrArg List.length e2
     simp only [List.length_append,List.length_cons,List.length_range'] at this
     omega
    have hol : os.length <= 100:=by
     have h1:=hsub.length_le
     have h2:=(tri_len ⟨ws.length,by omega⟩)
     have h3 : (tri ws.length A).length <= 64:=hAl
     rw [List.length_append,List.length_map] at h1
     omega
    clear hN2 e2 hM hsub
    walk_at "rd"
    refine ⟨d,lots,rfl,by omega,w.cl,fun n H12 c0 c1 hD => ?_⟩
    have w7:=w.drw hD
    have go':=w7.hd
    have gt':=w7.tl.hd
    have x1:=gD_at (show i < tv.length by omega)
    have x2:=gD_at (show j < tv.length by omega)
    clear w hD
    have tvl':=Box.mk tvl
    clear tvl
    walk_at "rd"
    split
    ·
     have em : os.map (oT tv) ++ [T.tup [T.int ((tv.getD i 0 : Nat) : Int),T.int ((tv.getD j 0 : Nat) : Int)]] = (os ++ [(i,j)]).map (oT tv):=by rw [List.map_append]; rfl
     rw [em]
     refine ⟨⟨trivial,trivial⟩,by decide,by omega,hN'.out _ _ ⟨os ++ [(i,j)],_,rfl,w7.set po0 (fun q hq => ?_) _,hs1⟩⟩
     rcases List.mem_cons.mp hq with rfl | hq
     ·
      exact nto
     ·
      rw [List.mem_singleton.mp hq]; exact nno
    ·
     exact hN'.out _ _ ⟨os,_,rfl,w7,hs2⟩
  rintro σ H ⟨os,v8,v9,rfl,w,hsub⟩
  refine ⟨trivial,?_⟩
  clear w6
  walk_at "nx"
  refine seq_cut fun R6 hR6 => ?_
  have ol28 : os.length <= 28:=Nat.le_trans hsub.length_le (tri_len ⟨ws.length,by omega⟩)
  have ond : os.Nodup:=(tri_nd ⟨ws.length,by omega⟩).sublist hsub
  have oin : ∀ x ∈ os,x.1 < x.2 /\ x.2 < ws.length:=fun x hx => mem_tri (fun i hi => List.mem_range.mp hi) (hsub.subset hx)
  have go':=w.hd
  walk_at "rd"
  refine ⟨d,po,_,rfl,(w.at' _ List.mem_cons_self).2,go',pl_oT tv os,by rw [List.length_map]; omega,w.cl,fun ys H12 q2 hperm hD4 hq2 => ?_⟩
  obtain ⟨os',hos,rfl⟩:=perm_inv hperm _ rfl
  have ol' : os'.length <= 28:=by rw [hos.length_eq]; exact ol28
  have ond' : os'.Nodup:=hos.nodup_iff.mpr ond
  have oin' : ∀ x ∈ os',x.1 < x.2 /\ x.2 < ws.length:=fun x hx => oin x (hos.mem_iff.mp hx)
  have w7:=(w.drw hD4).tl.tl.new (o:=.lst (os'.map (oT tv))) hq2
  generalize up3 H12 q2 (.lst (os'.map (oT tv))) = H13 at w7
  clear w hD4 hq2 go' hperm hos hsub ol28 ond oin
  walk_at "nx"
  refine seq_cut fun R7 hR7 => ?_
  walk_at "rd"
  refine ⟨d,24,rfl,by decide,w7.cl,fun n2 H14 c0 c1 hD5 => ?_⟩
  have w8:=w7.drw hD5
  clear w7 hD5
  try dsimp only
  walk_at "rd"
  refine ⟨d,pn,q2,ws,_,8 + n2,rfl,by omega,by omega,(w8.at' (pn,.lst (ws.map T.str)) (by simp)).2,(w8.at' _ List.mem_cons_self).2,w8.tl.hd,hws,ws8,w8.hd,pl_oT tv os',by rw [List.length_map]; exact ol',w8.cl,fun prs pb as H15 p12 pnd pok hcl hkp tq => ?_⟩
  have w9:=w8.kep hcl hkp
  clear w8 hkp hcl
  try dsimp only
  walk_at "rd"
  refine ⟨trivial,?_⟩
  walk_at "nx"
  refine seq_cut fun R8 hR8 => ?_
  walk_at "rd"
  refine ⟨d,5,rfl,by decide,w9.cl,fun n3 H16 d0 d1 hD6 => ?_⟩
  have w10:=w9.drw hD6
  have tq1:=tq.drw hD6
  clear w9 tq hD6
  walk_at "rd"
  refine ⟨d,(1 + n3).toNat,by rw [Int.toNat_of_nonneg (by omega)],by omega,by omega,w10.cl,fun ks0 H17 pk hkl hks hD7 hpk => ?_⟩
  have w11:=(w10.drw hD7).new (o:=.lst (ks0.map T.str)) hpk
  have tq2:=(tq1.drw hD7).new (o:=.lst (ks0.map T.str)) hpk
  generalize up3 H17 pk (.lst (ks0.map T.str)) = H18 at w11 tq2
  have ks1 : 1 <= ks0.length:=by omega
  have ks8 : ks0.length <= 8:=by omega
  clear w10 tq1 hD7 hpk hkl
  walk_at "nx"
  refine seq_cut fun R9 hR9 => ?_
  walk_at "rd"
  refine ⟨d,st,rfl,by omega,w11.cl,fun n4 H19 e0 e1 hD8 => ?_⟩
  have w12:=w11.drw hD8
  have tq3:=tq2.drw hD8
  clear w11 tq2 hD8
  walk_at "rd"
  refine ⟨by first | trivial | omega,by omega,by omega,?_⟩
  have hrl : (rng3 0 (1 + n4).toNat).length = (1 + n4).toNat:=by unfold rng3; rw [List.length_map,List.length_range]
  generalize rng3 0 (1 + n4).toNat = ts0 at hrl
  walk_at "cp"
  refine cIter_go (fun r ys σ H => ∃ (rw_ : List Str) (v : Option T),σ = [v,some (.ref pk),some (.ref d)] /\ ys = rw_.map T.str /\ rw_.length + r.length = (1 + n4).toNat /\ (∀ x ∈ rw_,x ∈ ks0) /\ Wt d H3 H [(pk,.lst (ks0.map T.str)),(q2,.lst (os'.map (oT tv))),(pn,.lst (ws.map T.str))] /\ Tq d H14 H pb ws.length as) ⟨[],_,rfl,rfl,by rw [hrl]; exact Nat.zero_add _,(fun _ h => nomatch h),w12,tq3⟩ ?_ ?_
  rotate_left
  ·
   rintro x r ys σ H N ⟨rw_,v,rfl,rfl,hrw,hin,w,tq⟩ hN
   refine ⟨trivial,?_⟩
   rw [List.length_cons] at hrw
   have hN':=Box.mk hN
   have hin':=Box.mk hin
   have g:=w.hd
   have ks1' : (0 : Int) < (ks0.length : Int):=by omega
   clear hN hin w12 tq3 k' hR9
   walk_at "rd"
   refine ⟨d,_,rfl,ks1',w.cl,fun n5 H20 f0 f1 hD9 => ?_⟩
   have w13:=w.drw hD9
   have tq4:=tq.drw hD9
   have g13:=w13.hd
   clear w tq g hD9
   obtain ⟨z,hz,ez⟩:=at_ex ks0 n5 f0 f1
   have ez' : atI (ks0.map T.str) n5 = some (T.str z):=by rw [at_map,ez]; rfl
   clear ez
   walk_at "rd"
   refine ⟨by first | omega | (rw [List.length_map]; omega),hN'.out _ _ _ ⟨rw_ ++ [z],_,rfl,by rw [List.map_append]; rfl,by rw [List.length_append,List.length_singleton]; omega,fun y hy => ?_,w13,tq4⟩⟩
   rcases List.mem_append.mp hy with h | h
   ·
    exact hin'.out y h
   ·
    rw [List.mem_singleton.mp h]; exact hz
  rintro ys σ H ⟨rw_,v,rfl,rfl,hrw,hin,w,tq⟩
  rw [List.length_nil,Nat.add_zero] at hrw
  refine ⟨trivial,by rw [List.length_map]; omega,fun pr hpr => ?_⟩
  have w13:=w.new (o:=.lst (rw_.map T.str)) hpr
  have tq4:=tq.new (o:=.lst (rw_.map T.str)) hpr
  generalize up3 H pr (.lst (rw_.map T.str)) = H20 at w13 tq4
  clear w tq hpr w12 tq3 hrl
  have rw1 : 1 <= rw_.length:=by omega
  have rw8 : rw_.length <= 8:=by omega
  have rws : (rw_.length : Int) <= st:=by omega
  clear hrw
  walk_at "nx"
  refine seq_cut fun R10 hR10 => ?_
  walk_at "rd"
  refine ⟨d,pr,pk,pb,rw_,ks0,ws.length,H14,as,rfl,(w13.at' _ List.mem_cons_self).2,(w13.at' (pk,.lst (ks0.map T.str)) (by simp)).2,w13.hd,rw1,rw8,fun x hx => hks.nm x (hin x hx),w13.tl.hd,hks,ks8,tq4,ws8,w13.cl,fun kk H21 pso hkk hkb hD10 hpso => ?_⟩
  have w14:=(w13.drw hD10).new (o:=.lst (kk.map sT)) hpso
  generalize up3 H21 pso (.lst (kk.map sT)) = H22 at w14
  clear w13 tq4 hD10 hpso
  walk_at "nx"
  refine seq_cut fun R11 hR11 => ?_
  walk_at "rd"
  refine ⟨d,ws.length,rfl,ws8,w14.cl,fun ls H23 pl_ hll hlb hD11 hpl_ => ?_⟩
  have w15:=(w14.drw hD11).new (o:=.lst (ls.map T.int)) hpl_
  generalize up3 H23 pl_ (.lst (ls.map T.int)) = H24 at w15
  clear w14 hD11 hpl_
  walk_at "nx"
  refine seq_cut fun R12 hR12 => ?_
  walk_at "rd"
  refine ⟨by first | trivial | omega,by omega,by omega,?_⟩
  rw [rng_0]
  walk_at "cp"
  refine cIter_pure (fun (k : Nat) => T.int (k : Int)) (fun k => tkT (tkD ws ls kk k)) (List.range ws.length) [some (.ref pn),some (.ref pl_),some (.ref pso)] trivial (by rw [List.length_range]; omega) (fun i hi Q' hq => ?_) (fun p hp => ?_)
  ·
   have hi':=List.mem_range.mp hi
   have g1:=(w15.at' (pn,.lst (ws.map T.str)) (by simp)).1
   have g2:=w15.hd
   have g3:=w15.tl.hd
   have x1:=getD_at hi'
   have x2:=gI_at (show i < ls.length by omega)
   have x3:=gK_at (show i < kk.length by omega)
   have hq':=Box.mk hq
   clear k' hq hR12
   try dsimp only at g1
   walk_at "rd"
   exact ⟨by decide,hq'.out⟩
  rw [show (List.range ws.length).map (fun k => tkT (tkD ws ls kk k)) = ((List.range ws.length).map (tkD ws ls kk)).map tkT by rw [List.map_map]; rfl]
  have w16:=(w15.new (o:=.lst (((List.range ws.length).map (tkD ws ls kk)).map tkT)) hp).tl
  generalize up3 H24 p (.lst (((List.range ws.length).map (tkD ws ls kk)).map tkT)) = H25 at w16
  clear w15 hp
  walk_at "nx"
  have gq : H25 q2 = some (.lst (os'.map (oT tv))):=(w16.at' (q2,.lst (os'.map (oT tv))) (by simp)).1
  have gn : H25 pn = some (.lst (ws.map T.str)):=(w16.at' (pn,.lst (ws.map T.str)) (by simp)).1
  have gr : H25 pr = some (.lst (rw_.map T.str)):=w16.tl.tl.hd
  walk_at "rd"
  walk_at "cp"
  refine cIter_pure2 (fun x : Nat × Nat => .int ((tv.getD x.1 0 : Nat) : Int)) (fun x => .int ((tv.getD x.2 0 : Nat) : Int)) (fun x => orT (oD ws tv x)) os' [some (.ref pn)] (.inl gq) (by omega) (fun x hx Q' hq => ?_) (fun p hp => ?_)
  ·
   have ox:=oin' x hx
   have y1:=getD_at (tvm _ (getD_mem (d:=0) (show x.1 < tv.length by omega)))
   have y2:=getD_at (tvm _ (getD_mem (d:=0) (show x.2 < tv.length by omega)))
   have hq':=Box.mk hq
   clear k' hq gr gq
   walk_at "rd"
   exact ⟨by decide,hq'.out⟩
  rw [show os'.map (fun x => orT (oD ws tv x)) = (os'.map (oD ws tv)).map orT by rw [List.map_map]; rfl]
  have w17:=w16.new (o:=.lst ((os'.map (oD ws tv)).map orT)) hp
  have gr2 : up3 H25 p (.lst ((os'.map (oD ws tv)).map orT)) pr = some (.lst (rw_.map T.str)):=by rw [up3_ne (ne3n gr hp)]; exact gr
  generalize up3 H25 p (.lst ((os'.map (oD ws tv)).map orT)) = H26 at w17 gr2
  clear w16 hp gq gn gr
  walk_at "rd"
  refine ⟨by decide,fin_drw w17.cl w17.kp fun H'' hD => ?_⟩
  exact k'.out ⟨(List.range ws.length).map (tkD ws ls kk),os'.map (oD ws tv),prs,rw_⟩ H'' (wq_ok hws ws1 ws8 hll hlb hkk hkb tvl tvn tvm ol' ond' oin' p12 pnd pok rw1 rw8 fun x hx => hks.nm x (hin x hx)) (by show (((List.range ws.length).map (tkD ws ls kk)).length : Int) <= lst + most - 1; rw [List.length_map,List.length_range]; exact wsm) rws hD
abbrev N_settled : List Str:=["_law_works_here","_law_at_here","_law_more","_law_one","_law_other","_law_word"]
theorem sc_settled : FnScope N_settled ["_law_works_here","_law_at_here"] (defScope (top 38)):=sc_mk
theorem ok_settled {f : Addr} {fd : FuncData} (g : G3 K mg "_law_settled" (top 38) ["_law_works_here","_law_at_here"] f fd) (B : Bl mg) : Cal P w K mg base 1 "_law_settled" (top 38) ["_law_works_here","_law_at_here"] spSe:=by
 refine ⟨f,fd,g,?_⟩
 refine fn3 g.fn sc_settled (fun ts H Q h => ?_) (fun cdv A outer s H E ts H3 Q hr h => ?_)
 ·
  obtain ⟨W,a,f,m,rfl,_⟩:=h; rfl
 ·
  have hu30:=Room.u30 hr
  have hu31:=Room.u31 hr
  have hu1:=Room.u1 hr
  obtain ⟨W,a,f,m,rfl,hW,ha,hf,k⟩:=h
  refine ⟨_,(ss3_cons (s3_set (i:=2) sc_settled.nd c3_bl)
    (ss3_one (s3_while PassesOwn.never (t3_val (v3 2)) (ss3_cons (s3_set (i:=2) sc_settled.nd c3_bl)
     (ss3_cons (s3_for PassesOwn.never rfl (i3_tup (e3_ix ix3 (v3 0) c3_int)) (g3_tup (n:=2) rfl (gs3_cons (g3_name (i:=3) sc_settled.nd) (gs3_cons (g3_name (i:=4) sc_settled.nd) gs3_nil))) (ss3_one (s3_if (t3_cmp o3_gt (e3_dget hu1 (v3 1) (v3 3)) (e3_dget hu1 (v3 1) (v3 4))) (ss3_cons (s3_dput hu1 (v3 1) (v3 4) (e3_dget hu1 (v3 1) (v3 3)))
       (ss3_one (s3_set (i:=2) sc_settled.nd c3_bl))) ss3_nil)))
     (ss3_one (s3_for PassesOwn.never rfl (i3_tup (e3_ix ix3 (v3 0) c3_int)) (g3_tup (n:=3) rfl (gs3_cons (g3_name (i:=5) sc_settled.nd) (gs3_cons (g3_name (i:=3) sc_settled.nd) (gs3_cons (g3_name (i:=4) sc_settled.nd) gs3_nil)))) (ss3_one (s3_if (PW3.pt (w3_and (t3_cmp (o3_eq hu30) (v3 5) c3_str) (w3_and1 (t3_cmp (o3_ne hu30) (e3_dget hu1 (v3 1) (v3 3)) (e3_dget hu1 (v3 1) (v3 4)))))) (ss3_cons (s3_dput hu1 (v3 1) (v3 3) (e3_callB (c3_max2 rfl) rfl B.max_ bt_max (a3_cons (e3_dget hu1 (v3 1) (v3 3)) (a3_cons (e3_dget hu1 (v3 1) (v3 4)) a3_nil))))
       (ss3_cons (s3_dput hu1 (v3 1) (v3 4) (e3_dget hu1 (v3 1) (v3 3)))
       (ss3_one (s3_set (i:=2) sc_settled.nd c3_bl)))) ss3_nil))))))))),?_⟩
  rw [show start3 N_settled [W.enc,T.ref a] = [some (W.enc),some (T.ref a),none,none,none,none] from rfl]
  have hsz : sizeLine = 16777216:=rfl
  have k':=Box.mk k
  clear k
  have hnl : (W.tasks.map (·.1)).length <= 8:=by rw [List.length_map]; exact hW.t8
  have hoo : Box (∀ o ∈ W.orders,o.1 ∈ W.tasks.map (·.1) /\ o.2 ∈ W.tasks.map (·.1)):=⟨fun o ho => (hW.oo o ho).2⟩
  have hpp : Box (∀ p ∈ W.pairs,p.2.1 ∈ W.tasks.map (·.1) /\ p.2.2 ∈ W.tasks.map (·.1)):=⟨fun o ho => (hW.pp o ho).2.2⟩
  have hol : W.orders.length <= 28:=hW.os
  have hpl : W.pairs.length <= 12:=hW.ps
  have hf':=Box.mk hf
  clear hf hW
  try dsimp only at ha k'
  generalize W.tasks.map (·.1) = ns at *
  refine seq_cut fun R0 hR0 => ?_
  walk_at "rd"
  walk_at "nx"
  show tWhile3 _ _ _ _ _
  refine while_cut (fun M σ H => ∃ (g : Str -> Nat) (b : Bool) (v3 v4 v5 : Option T),M = mu m ns g + b.toNat /\ σ = [some (W.enc),some (.ref a),some (.bl b),v3,v4,v5] /\ H = up3 H3 a (.dct (dN ns g)) /\ Box (∀ n,g n < m)) ⟨_,f,true,none,none,none,rfl,rfl,(up3_id ha).symm,hf'⟩ ?_
  intro M σ H hI WI TB NX hWI hTB hNX
  obtain ⟨g,b,v3,v4,v5,rfl,rfl,rfl,hg⟩:=hI
  clear ha hf'
  walk_at "rd"
  cases b with
  | false =>
   obtain ⟨hNX⟩:=hNX
   subst hNX
   walk_at "rd"
   exact Fin3.of Sub3.refl (k'.out g hg.out)
  | true =>
   clear hNX k'
   obtain ⟨hTB⟩:=hTB
   subst hTB
   rw [if_pos rfl]
   refine seq_cut fun R1 hR1 => ?_
   walk_at "rd"
   walk_at "nx"
   refine seq_cut fun R2 hR2 => ?_
   walk_at "rd"
   refine iter_pre orT W.orders (fun A σ H => ∃ (g1 : Str -> Nat) (b : Bool) (v3 v4 v5 : Option T),mu m ns g1 + b.toNat <= mu m ns g /\ σ = [some (W.enc),some (.ref a),some (.bl b),v3,v4,v5] /\ H = up3 H3 a (.dct (dN ns g1)) /\ Box (∀ n,g1 n < m)) ⟨g,false,_,_,_,Nat.le_refl _,rfl,rfl,hg⟩ ?_ ?_
   rotate_left
   ·
    rintro A ⟨x,y⟩ B σ H N e ⟨g1,b,v3,v4,v5,hmu,rfl,rfl,hg1⟩ hN
    have hm:=hoo.out (x,y) (by rw [e]; simp)
    have l1:=dN_look (f:=g1) hm.1
    have l2:=dN_look (f:=g1) hm.2
    have p1:=dN_put (f:=g1) (v:=g1 x) hm.2
    have hl:=dN_len ns g1
    have hdn : g1 y < g1 x -> mu m ns (fu g1 y (g1 x)) + 1 <= mu m ns g1:=fun h => mu_lt (fu_up (Nat.le_of_lt h)) (by rw [fu_at]; exact h) (hg1.out y) hm.2
    have hdn':=Box.mk hdn
    have hN':=Box.mk hN
    have hmu':=Box.mk hmu
    clear hN e hR2 hWI hm hdn hmu
    refine ⟨trivial,?_⟩
    dsimp only at l1 l2 p1
    simp only [orT]
    walk_at "rd"
    refine ⟨trivial,?_⟩
    split
    ·
     refine ⟨by omega,hN'.out _ _ ⟨fu g1 y (g1 x),true,_,_,_,?_,rfl,rfl,⟨fu_lt hg1.out (hg1.out x)⟩⟩⟩
     rename_i hc
     have:=hdn'.out (by simp only [decide_eq_true_eq] at hc; omega)
     have:=hmu'.out
     show _ + 1 <= _
     omega
    ·
     exact hN'.out _ _ ⟨g1,b,_,_,_,hmu'.out,rfl,rfl,hg1⟩
   rintro σ H ⟨g1,b,v3,v4,v5,hmu,rfl,rfl,hg1⟩
   refine ⟨trivial,?_⟩
   walk_at "nx"
   walk_at "rd"
   refine iter_pre prT W.pairs (fun A σ H => ∃ (g1 : Str -> Nat) (b : Bool) (v3 v4 v5 : Option T),mu m ns g1 + b.toNat <= mu m ns g /\ σ = [some (W.enc),some (.ref a),some (.bl b),v3,v4,v5] /\ H = up3 H3 a (.dct (dN ns g1)) /\ Box (∀ n,g1 n < m)) ⟨g1,b,_,_,_,hmu,rfl,rfl,hg1⟩ ?_ ?_
   rotate_left
   ·
    rintro A ⟨wd,x,y⟩ B σ H N e ⟨g1,b,v3,v4,v5,hmu,rfl,rfl,hg1⟩ hN
    have hm:=hpp.out (wd,x,y) (by rw [e]; simp)
    have l1:=dN_look (f:=g1) hm.1
    have l2:=dN_look (f:=g1) hm.2
    have emx : (if ((g1 y : Nat) : Int) > ((g1 x : Nat) : Int) then ((g1 y : Nat) : Int) else ((g1 x : Nat) : Int)) = ((max (g1 x) (g1 y) : Nat) : Int):=by split <;> omega
    have p1:=dN_put (f:=g1) (v:=max (g1 x) (g1 y)) hm.1
    have l3:=dN_look (f:=fu g1 x (max (g1 x) (g1 y))) hm.1
    rw [fu_at] at l3
    have p2:=dN_put (f:=fu g1 x (max (g1 x) (g1 y))) (v:=max (g1 x) (g1 y)) hm.2
    have hl:=dN_len ns g1
    have hl2:=dN_len ns (fu g1 x (max (g1 x) (g1 y)))
    have hdn : g1 x ≠ g1 y -> mu m ns (fu (fu g1 x (max (g1 x) (g1 y))) y (max (g1 x) (g1 y))) + 1 <= mu m ns g1:=fun h => by
     have up : ∀ n,g1 n <= fu (fu g1 x (max (g1 x) (g1 y))) y (max (g1 x) (g1 y)) n:=fun n => Nat.le_trans (fu_up (f:=g1) (n:=x) (Nat.le_max_left _ _) n) (fu_up (by
      by_cases e : y = x
      ·
       subst e; rw [fu_at]; exact Nat.le_refl _
      ·
       unfold fu; rw [if_neg e]; exact Nat.le_max_right _ _) n)
     by_cases c : g1 y < g1 x
     ·
      exact mu_lt (x:=y) up (by rw [fu_at]; omega) (hg1.out y) hm.2
     ·
      refine mu_lt (x:=x) up ?_ (hg1.out x) hm.1
      have : x ≠ y:=fun e => h (by rw [e])
      unfold fu
      rw [if_neg this,if_pos rfl]
      omega
    have hdn':=Box.mk hdn
    have hN':=Box.mk hN
    have hmu':=Box.mk hmu
    have hmx : max (g1 x) (g1 y) < m:=by have:=hg1.out x; have:=hg1.out y; omega
    clear hN e hWI hm hdn hmu
    refine ⟨trivial,?_⟩
    dsimp only at l1 l2 l3 p1 p2
    simp only [prT]
    walk_at "rd"
    refine ⟨trivial,?_⟩
    by_cases hw : wd = "with"
    ·
     walk_at "rd"
     by_cases hne : g1 x = g1 y
     ·
      walk_at "rd"
      exact hN'.out _ _ ⟨g1,b,_,_,_,hmu'.out,rfl,rfl,hg1⟩
     ·
      walk_at "rd"
      rw [if_pos (by rw [decide_eq_false (by omega)]; rfl)]
      refine ⟨by omega,by omega,hN'.out _ _ ⟨_,true,_,_,_,?_,rfl,rfl,⟨fu_lt (fu_lt hg1.out hmx) hmx⟩⟩⟩
      have:=hdn'.out hne
      have:=hmu'.out
      show _ + 1 <= _
      omega
    ·
     walk_at "rd"
     exact hN'.out _ _ ⟨g1,b,_,_,_,hmu'.out,rfl,rfl,hg1⟩
   rintro σ H ⟨g1,b,v3,v4,v5,hmu,rfl,rfl,hg1⟩
   refine ⟨trivial,?_⟩
   walk_at "rd"
   exact ⟨_,Nat.lt_succ_of_le hmu,by rw [hWI.out]; exact ⟨g1,b,_,_,_,rfl,rfl,rfl,hg1⟩⟩
abbrev N_dealing : List Str:=["_law_deck","_law_works_here","_law_many","_law_names_here","_law_at_here","_law_name"]
theorem sc_dealing : FnScope N_dealing ["_law_deck","_law_works_here"] (defScope (top 39)):=sc_mk
theorem ok_dealing {f : Addr} {fd : FuncData} (g : G3 K mg "_law_dealing" (top 39) ["_law_deck","_law_works_here"] f fd) (B : Bl mg) (F_draw : Cal P w K mg base 1 "_law_draw" (top 21) ["_law_deck","_law_most"] spDr) (F_settled : Cal P w K mg base 1 "_law_settled" (top 38) ["_law_works_here","_law_at_here"] spSe) (F_turn : Cal P w K mg base 2 "_law_turn" (top 25) ["_law_deck","_law_things"] spTu) : Cal P w K mg base 3 "_law_dealing" (top 39) ["_law_deck","_law_works_here"] spDe:=by
 refine ⟨f,fd,g,?_⟩
 refine fn3 g.fn sc_dealing (fun ts H Q h => ?_) (fun cdv A outer s H E ts H3 Q hr h => ?_)
 ·
  obtain ⟨d,W,rfl,_⟩:=h; rfl
 ·
  have hu30:=Room.u30 hr
  have hu31:=Room.u31 hr
  have hu1:=Room.u1 hr
  obtain ⟨d,W,rfl,hW,hC,k⟩:=h
  refine ⟨_,(ss3_cons (s3_set (i:=2) sc_dealing.nd (e3_op o3_add c3_int (e3_cl F_draw hr rfl (a3_cons (v3 0) (a3_cons (e3_callB c3_len rfl B.len_ bt_len (a3_cons (e3_ix ix3 (v3 1) c3_int) a3_nil)) a3_nil)))))
    (ss3_cons (s3_set (i:=3) sc_dealing.nd (e3_comp rfl (compSc (n0:=(defScope (top 39)).names) (N:=N_dealing) (N':=["_law_name","_law_length","_law_kinds_here"]) (nt:=3) (cap:=[]) rfl rfl (by decide +kernel)) (i3_tup (e3_ix ix3 (v3 1) c3_int)) (fun cl pins s H C0 fp => ⟨(g3_tup (n:=3) rfl (gs3_cons (g3_name (i:=0) (show List.Nodup [("_law_name" : Str),("_law_length" : Str),("_law_kinds_here" : Str)] by decide +kernel)) (gs3_cons (g3_name (i:=1) (show List.Nodup [("_law_name" : Str),("_law_length" : Str),("_law_kinds_here" : Str)] by decide +kernel)) (gs3_cons (g3_name (i:=2) (show List.Nodup [("_law_name" : Str),("_law_length" : Str),("_law_kinds_here" : Str)] by decide +kernel)) gs3_nil)))),if3_nil,(v3 0)⟩)))
    (ss3_cons (s3_set (i:=4) sc_dealing.nd e3_dnew)
    (ss3_cons (s3_for PassesOwn.never rfl (i3_list (v3 3)) (g3_name (i:=5) sc_dealing.nd) (ss3_one (s3_dput hu1 (v3 4) (v3 5) (e3_cl F_draw hr rfl (a3_cons (v3 0) (a3_cons (v3 2) a3_nil))))))
    (ss3_cons (s3_if (t3_cmp o3_gt (e3_cl F_draw hr rfl (a3_cons (v3 0) (a3_cons c3_int a3_nil))) c3_int) (ss3_one (s3_expr (e3_cl F_settled hr rfl (a3_cons (v3 1) (a3_cons (v3 4) a3_nil))))) ss3_nil)
    (ss3_cons (s3_if (t3_cmp (o3_eq hu30) (e3_cl F_draw hr rfl (a3_cons (v3 0) (a3_cons c3_int a3_nil))) c3_int) (ss3_one (s3_set (i:=3) sc_dealing.nd (e3_cl F_turn hr rfl (a3_cons (v3 0) (a3_cons (v3 3) a3_nil))))) ss3_nil)
    (ss3_one (s3_ret (e3_callTy c3_tuple rfl B.tuple_ bt_tuple (a3_cons (e3_comp rfl (compSc (n0:=(defScope (top 39)).names) (N:=N_dealing) (N':=["_law_k","_law_names_here","_law_at_here"]) (nt:=1) (cap:=[3,4]) rfl rfl (by decide +kernel)) (i3_range1 rfl B.range_ (a3_cons (v3 2) a3_nil)) (fun cl pins s H C0 fp => ⟨(g3_name (i:=0) (show List.Nodup [("_law_k" : Str),("_law_names_here" : Str),("_law_at_here" : Str)] by decide +kernel)),if3_nil,(e3_callTy c3_tuple rfl B.tuple_ bt_tuple (a3_cons (e3_comp rfl (compSc2 (n00:=(defScope (top 39)).names) (N:=["_law_k","_law_names_here","_law_at_here"]) (N':=["_law_name","_law_k","_law_at_here"]) (nt:=1) (cap:=[0,2]) rfl rfl rfl (by decide +kernel)) (i3_list (v3 1)) (fun cl pins s H C0 fp => ⟨(g3_name (i:=0) (show List.Nodup [("_law_name" : Str),("_law_k" : Str),("_law_at_here" : Str)] by decide +kernel)),(if3_one (t3_cmp (o3_eq hu30) (e3_dget hu1 (v3 2) (v3 0)) (v3 1))),(v3 0)⟩)) a3_nil))⟩)) a3_nil)))))))))),?_⟩
  rw [show start3 N_dealing [T.ref d,W.enc] = [some (T.ref d),some (W.enc),none,none,none,none] from rfl]
  have hsz : sizeLine = 16777216:=rfl
  have k':=Box.mk k
  clear k
  have w0 : Wt d H3 H3 []:=⟨hC,Kep.refl,(fun _ h => nomatch h)⟩
  clear hC
  have r1 : 1 <= W.row.length:=hW.r1
  have r8 : W.row.length <= 8:=hW.r8
  have t8 : W.tasks.length <= 8:=hW.t8
  have nd : Box ((W.tasks.map (·.1)).Nodup):=⟨hW.nd⟩
  have hW':=Box.mk hW
  clear hW
  refine seq_cut fun R0 hR0 => ?_
  walk_at "rd"
  refine ⟨d,W.row.length,rfl,by omega,w0.cl,fun n0 H4 a0 a1 hD0 => ?_⟩
  have w1:=w0.drw hD0
  clear w0 hD0
  walk_at "rd"
  obtain ⟨m,hm⟩ : ∃ m : Nat,1 + n0 = (m : Int):=⟨(1 + n0).toNat,by rw [Int.toNat_of_nonneg (by omega)]⟩
  rw [hm]
  have m1 : 1 <= m:=by omega
  have mr : m <= W.row.length:=by omega
  clear hm a0 a1 n0
  walk_at "nx"
  refine seq_cut fun R1 hR1 => ?_
  walk_at "rd"
  walk_at "cp"
  refine cIter_f3 (fun t : Str × Int × List Str => .str t.1) (fun t => .int t.2.1) (fun t => .tup (t.2.2.map T.str)) (fun t => T.str t.1) (fun _ => true) W.tasks [] trivial (by omega) (fun t ht Q' hq => hq) (fun t ht _ Q' hq => ?_) (fun pn hpn => ?_)
  ·
   clear k'
   walk_at "rd"
  rw [List.filter_eq_self.mpr (fun _ _ => rfl),show W.tasks.map (fun t => T.str t.1) = (W.tasks.map (·.1)).map T.str by rw [List.map_map]; rfl]
  have k2 : Box (∀ (ns : List Str) (f : Str -> Nat) (m : Nat) (H' : Hp3),ns.Perm (W.tasks.map (·.1)) -> 1 <= m -> m <= W.row.length -> (∀ n,f n < m) -> Drw d H3 H' -> Q (.tup ((dealt ns f m).map sT)) H'):=⟨k'.out⟩
  have nl : (W.tasks.map (·.1)).length <= 8:=by rw [List.length_map]; exact t8
  have hT : Box (Wk.tasks W = W.tasks):=⟨rfl⟩
  generalize hns : W.tasks.map (·.1) = ns at *
  have hns':=Box.mk hns
  clear hns k'
  have w2:=w1.new (o:=.lst (ns.map T.str)) hpn
  generalize up3 H4 pn (.lst (ns.map T.str)) = H5 at w2
  clear w1 hpn
  walk_at "nx"
  refine seq_cut fun R2 hR2 => ?_
  walk_at "rd"
  intro pd hpd
  have pd0:=w2.fresh hpd
  have npd : pn ≠ pd:=ne3n w2.hd hpd
  have w3:=w2.new (o:=.dct []) hpd
  generalize up3 H5 pd (.dct []) = H6 at w3
  clear w2 hpd
  walk_at "nx"
  refine seq_cut fun R3 hR3 => ?_
  have gn:=w3.tl.hd
  walk_at "rd"
  refine iter_pre T.str ns (fun A σ H => ∃ (f : Str -> Nat) (v : Option T),σ = [some (.ref d),some (W.enc),some (.int (m : Int)),some (.ref pn),some (.ref pd),v] /\ Wt d H3 H [(pd,.dct (dN A f)),(pn,.lst (ns.map T.str))] /\ Box (∀ n,f n < m)) ⟨fun _ => 0,_,rfl,w3,⟨fun _ => Nat.lt_of_lt_of_le Nat.zero_lt_one m1⟩⟩ ?_ ?_
  rotate_left
  ·
   rintro A x B σ H N e ⟨f,v,rfl,w,hf⟩ hN
   have g1:=w.tl.hd
   have hx : x ∉ A:=fun h => by
    have:=nd.out
    rw [e,List.nodup_append] at this
    exact this.2.2 x h x List.mem_cons_self rfl
   have hl : A.length < 8:=by
    have:=congrArg List.length e
    simp only [List.length_append,List.length_cons] at this
    omega
   have hN':=Box.mk hN
   clear hN e w3 gn k2 hR3 hns'
   refine ⟨by first | exact .inl g1 | exact g1,?_⟩
   walk_at "rd"
   refine ⟨d,m,rfl,by omega,w.cl,fun n H7 b0 b1 hD => ?_⟩
   have w4:=w.drw hD
   clear w hD g1
   obtain ⟨j,rfl⟩ : ∃ j : Nat,n = (j : Int):=⟨n.toNat,by omega⟩
   have gd:=w4.hd
   have p1:=dN_new (f:=f) (v:=j) hx
   have hl2:=dN_len A f
   walk_at "rd"
   refine ⟨by omega,hN'.out _ _ ⟨fu f x j,_,rfl,w4.set pd0 (fun q hq => by rw [List.mem_singleton.mp hq]; exact npd) _,⟨fu_lt hf.out (by omega)⟩⟩⟩
  rintro σ H ⟨f,v,rfl,w,hf⟩
  have g1:=w.tl.hd
  refine ⟨by first | exact .inl g1 | exact g1,?_⟩
  clear w3 gn g1
  walk_at "nx"
  refine seq_cut fun R4 hR4 => ?_
  have key : ∀ (f : Str -> Nat) (H : Hp3),Wt d H3 H [(pd,.dct (dN ns f)),(pn,.lst (ns.map T.str))] -> Box (∀ n,f n < m) -> R4 { nx:=fun _ H' => Fin3 Q .non H',rt:=Fin3 Q } [some (.ref d),some (W.enc),some (.int (m : Int)),some (.ref pn),some (.ref pd),v] H:=by
   clear w hf f H
   intro f H w hf
   walk_at "nx"
   refine seq_cut fun R5 hR5 => ?_
   have key2 : ∀ (pn1 : Addr) (ns1 : List Str) (H : Hp3),ns1.Perm ns -> Wt d H3 H [(pd,.dct (dN ns f)),(pn1,.lst (ns1.map T.str))] -> R5 { nx:=fun _ H' => Fin3 Q .non H',rt:=Fin3 Q } [some (.ref d),some (W.enc),some (.int (m : Int)),some (.ref pn1),some (.ref pd),v] H:=by
    clear w H
    intro pn1 ns1 H hp w
    walk_at "nx"
    have hp':=Box.mk hp
    have hl1:=hp.length_eq
    clear hp
    walk_at "rd"
    refine ⟨by first | trivial | omega,by omega,by omega,?_⟩
    rw [rng_0]
    walk_at "cp"
    refine cIter_pre (fun (k : Nat) => T.int (k : Int)) (List.range m) (fun A ys σ H => ∃ (v : Option T),σ = [v,some (.ref pn1),some (.ref pd)] /\ ys = A.map (fun k => sT (ns1.filter fun n => decide (f n = k))) /\ Wt d H3 H [(pd,.dct (dN ns f)),(pn1,.lst (ns1.map T.str))]) ⟨_,rfl,rfl,w⟩ ?_ ?_
    ·
     rintro ys σ H ⟨v,rfl,rfl,w⟩
     refine ⟨trivial,by rw [List.length_map,List.length_range]; omega,fun pc hpc => ?_⟩
     have w5:=w.new (o:=.lst ((List.range m).map (fun k => sT (ns1.filter fun n => decide (f n = k))))) hpc
     generalize up3 H pc (.lst ((List.range m).map (fun k => sT (ns1.filter fun n => decide (f n = k))))) = H9 at w5
     have g5:=w5.hd
     clear w hpc
     walk_at "rd"
     refine fin_drw w5.cl w5.kp fun H'' hD => ?_
     have:=k2.out ns1 f m H'' hp'.out m1 mr hf.out hD
     unfold dealt at this
     rw [List.map_map] at this
     exact this
    ·
     rintro A i B ys σ H N e ⟨v,rfl,rfl,w⟩ hN
     have hi : A.length < 8:=by
      have:=congrArg List.length e
      simp only [List.length_append,List.length_cons,List.length_range] at this
      omega
     have hN':=Box.mk hN
     clear hN e k2
     refine ⟨trivial,?_⟩
     have g1:=w.hd
     have g2:=w.tl.hd
     walk_at "rd"
     walk_at "cp"
     refine cIter_filt T.str T.str (fun n => decide (f n = i)) ns1 [some (.int (i : Int)),some (.ref pd)] (by first | exact .inl g2 | exact g2) (by omega) (fun n hn Q' hq => ?_) (fun n hn hpt Q' hq => ?_) (fun pc hpc => ?_)
     ·
      have l1:=dN_look (f:=f) (hp'.out.mem_iff.mp hn)
      have hq':=Box.mk hq
      clear hq hN'
      walk_at "rd"
      have e2 : decide (((f n : Nat) : Int) = (i : Int)) = decide (f n = i):=by rw [decide_eq_decide]; omega
      rw [e2]
      exact hq'.out
     ·
      walk_at "rd"
     have w5:=w.new (o:=.lst ((ns1.filter fun n => decide (f n = i)).map T.str)) hpc
     generalize up3 H pc (.lst ((ns1.filter fun n => decide (f n = i)).map T.str)) = H9 at w5
     have g5:=w5.hd
     clear w hpc g1 g2
     walk_at "rd"
     refine ⟨by first | omega | (rw [List.length_map]; omega),hN'.out _ _ _ ⟨_,rfl,by rw [List.map_append]; rfl,w5.tl⟩⟩
   clear k2
   walk_at "rd"
   refine ⟨d,2,rfl,by decide,w.cl,fun n H7 b0 b1 hD => ?_⟩
   have w4:=w.drw hD
   clear w hD
   have g2:=w4.tl.hd
   have key':=Box.mk key2
   clear key2
   walk_at "rd"
   split
   ·
    refine ⟨d,pn,ns.map T.str,rfl,(w4.tl.at' _ List.mem_cons_self).2,g2,pl_strs ns,by rw [List.length_map]; omega,w4.cl,fun ys H8 q2 hperm hD4 hq2 => ?_⟩
    obtain ⟨ns1,hp1,rfl⟩:=perm_inv hperm _ rfl
    have w5:=((w4.drw hD4).new (o:=.lst (ns1.map T.str)) hq2).swap3
    generalize up3 H8 q2 (.lst (ns1.map T.str)) = H9 at w5
    walk_at "rd"
    exact key'.out q2 ns1 _ hp1 w5
   ·
    exact key'.out pn ns _ (List.Perm.refl _) w4
  clear k2 hR4
  walk_at "rd"
  refine ⟨d,5,rfl,by decide,w.cl,fun n H7 b0 b1 hD => ?_⟩
  have w4:=w.drw hD
  clear w hD
  have key':=Box.mk key
  clear key
  have g1:=w4.hd
  walk_at "rd"
  split
  ·
   refine ⟨W,pd,f,m,rfl,hW'.out,by rw [hT.out,hns'.out]; exact g1,hf.out,fun g hg => ?_⟩
   rw [hT.out,hns'.out]
   walk_at "rd"
   exact key'.out g _ (w4.set pd0 (fun q hq => by rw [List.mem_singleton.mp hq]; exact npd) _) ⟨hg⟩
  ·
   exact key'.out f _ w4 hf
abbrev N_loads : List Str:=["_law_works_here","_law_dealing_here","_law_lengths_here","_law_name","_law_length","_law_kinds_here"]
theorem sc_loads : FnScope N_loads ["_law_works_here","_law_dealing_here"] (defScope (top 40)):=sc_mk
theorem ok_loads {f : Addr} {fd : FuncData} (g : G3 K mg "_law_loads" (top 40) ["_law_works_here","_law_dealing_here"] f fd) (B : Bl mg) : Cal P w K mg base 1 "_law_loads" (top 40) ["_law_works_here","_law_dealing_here"] spLd:=by
 refine ⟨f,fd,g,?_⟩
 refine fn3 g.fn sc_loads (fun ts H Q h => ?_) (fun cdv A outer s H E ts H3 Q hr h => ?_)
 ·
  obtain ⟨W,D,rfl,_⟩:=h; rfl
 ·
  have hu30:=Room.u30 hr
  have hu31:=Room.u31 hr
  have hu1:=Room.u1 hr
  obtain ⟨W,D,rfl,hW,d8,hd,k⟩:=h
  refine ⟨_,(ss3_cons (s3_set (i:=2) sc_loads.nd e3_dnew)
    (ss3_cons (s3_for PassesOwn.never rfl (i3_tup (e3_ix ix3 (v3 0) c3_int)) (g3_tup (n:=3) rfl (gs3_cons (g3_name (i:=3) sc_loads.nd) (gs3_cons (g3_name (i:=4) sc_loads.nd) (gs3_cons (g3_name (i:=5) sc_loads.nd) gs3_nil)))) (ss3_one (s3_dput hu1 (v3 2) (v3 3) (v3 4))))
    (ss3_one (s3_ret (e3_comp rfl (compSc (n0:=(defScope (top 40)).names) (N:=N_loads) (N':=["_law_stand","_law_lengths_here"]) (nt:=1) (cap:=[2]) rfl rfl (by decide +kernel)) (i3_tup (v3 1)) (fun cl pins s H C0 fp => ⟨(g3_name (i:=0) (show List.Nodup [("_law_stand" : Str),("_law_lengths_here" : Str)] by decide +kernel)),if3_nil,(e3_callB (c3_sum rfl) rfl B.sum_ bt_sum (a3_cons (e3_comp rfl (compSc2 (n00:=(defScope (top 40)).names) (N:=["_law_stand","_law_lengths_here"]) (N':=["_law_task","_law_lengths_here"]) (nt:=1) (cap:=[1]) rfl rfl rfl (by decide +kernel)) (i3_tup (v3 0)) (fun cl pins s H C0 fp => ⟨(g3_name (i:=0) (show List.Nodup [("_law_task" : Str),("_law_lengths_here" : Str)] by decide +kernel)),if3_nil,(e3_dget hu1 (v3 1) (v3 0))⟩)) a3_nil))⟩)))))),?_⟩
  rw [show start3 N_loads [W.enc,T.tup (D.map sT)] = [some (W.enc),some (T.tup (D.map sT)),none,none,none,none] from rfl]
  have hsz : sizeLine = 16777216:=rfl
  have k':=Box.mk k
  clear k
  have t8 : W.tasks.length <= 8:=hW.t8
  have nd : Box ((W.tasks.map (·.1)).Nodup):=⟨hW.nd⟩
  have hd' : Box (∀ ns ∈ D,ns.length <= 8 /\ ∀ n ∈ ns,n ∈ W.tasks.map (·.1)):=⟨hd⟩
  clear hW hd
  refine seq_cut fun R0 hR0 => ?_
  walk_at "rd"
  intro pd hpd
  walk_at "nx"
  refine seq_cut fun R1 hR1 => ?_
  walk_at "rd"
  refine iter_pre tkT W.tasks (fun A σ H => ∃ (v3 v4 v5 : Option T),σ = [some (W.enc),some (.tup (D.map sT)),some (.ref pd),v3,v4,v5] /\ H = up3 H3 pd (.dct (iN A))) ⟨_,_,_,rfl,rfl⟩ ?_ ?_
  rotate_left
  ·
   rintro A t B σ H N e ⟨v3,v4,v5,rfl,rfl⟩ hN
   have hx : t.1 ∉ A.map (·.1):=fun h => by
    have:=nd.out
    rw [e,List.map_append,List.nodup_append] at this
    exact this.2.2 _ h _ (by rw [List.map_cons]; exact List.mem_cons_self) rfl
   have p1:=iN_new hx
   have hl : A.length < 8:=by
    have:=congrArg List.length e
    simp only [List.length_append,List.length_cons] at this
    omega
   have hl2:=iN_len A
   have hN':=Box.mk hN
   clear hN e k' hR1
   refine ⟨trivial,?_⟩
   simp only [tkT]
   walk_at "rd"
   exact ⟨trivial,by omega,hN'.out _ _ ⟨_,_,_,rfl,rfl⟩⟩
  rintro σ H ⟨v3,v4,v5,rfl,rfl⟩
  refine ⟨trivial,?_⟩
  walk_at "nx"
  walk_at "rd"
  walk_at "cp"
  refine cIter_pre sT D (fun A ys σ H => ∃ (v : Option T),σ = [v,some (.ref pd)] /\ ys = A.map (fun ns => T.int (smL W.tasks ns)) /\ H pd = some (.dct (iN W.tasks)) /\ Sub3 H3 H) ⟨_,rfl,rfl,up3_same,Sub3.new hpd⟩ ?_ ?_
  ·
   rintro ys σ H ⟨v,rfl,rfl,g,sb⟩
   refine ⟨trivial,by rw [List.length_map]; omega,fun pc hpc => ?_⟩
   have hk:=k'.out pc (sub_none sb hpc)
   rw [List.map_map] at hk
   refine ⟨_,fun b o e => ?_,hk⟩
   by_cases eb : b = pc
   ·
    subst eb; rw [up3_same] at e ⊢; exact e
   ·
    rw [up3_ne eb] at e ⊢; exact sb b o e
  ·
   rintro A ns B ys σ H N e ⟨v,rfl,rfl,g,sb⟩ hN
   have hm:=hd'.out ns (by rw [e]; simp)
   have hA : A.length < 8:=by
    have:=congrArg List.length e
    simp only [List.length_append,List.length_cons] at this
    omega
   have hN':=Box.mk hN
   have hm2:=Box.mk hm.2
   have hm1:=hm.1
   clear hN e k' hm
   refine ⟨trivial,?_⟩
   simp only [sT]
   walk_at "rd"
   walk_at "cp"
   refine cIter_pure T.str (fun n => .int (lnOf W.tasks n)) ns [some (.ref pd)] trivial (by omega) (fun n hn Q' hq => ?_) (fun pc hpc => ?_)
   ·
    have l1:=iN_look (hm2.out n hn)
    have hq':=Box.mk hq
    clear hq hN'
    walk_at "rd"
    exact hq'.out
   have e : ints3 (ns.map (fun n => T.int (lnOf W.tasks n))) = some (ns.map (lnOf W.tasks)):=by
    rw [<- ints3_map,List.map_map]; rfl
   rw [e,q_oq]
   refine ⟨by first | omega | (rw [List.length_map]; omega),hN'.out _ _ _ ⟨_,rfl,by rw [List.map_append]; rfl,by rw [up3_ne (ne3n g hpc)]; exact g,sb.trans (Sub3.new hpc)⟩⟩
end
end M
namespace M
open PySem PySem.Spec PyProof.Rows L2 L3
local macro_rules | `(tactic| walk_at "cp") => `(tactic| dsimp only [cap3,List.replicate,List.map_cons,List.map_nil,List.cons_append,List.nil_append,List.getElem?_cons_zero,List.getElem?_cons_succ,Option.getD_some])
local macro_rules | `(tactic| walk_at "nx") => `(tactic| (obtain ⟨e⟩:=‹Shut (_ = _)›; subst e; try dsimp only))
local macro_rules | `(tactic| walk_at "rd") => do
 let ls <- ((nm0 ++ " q_is isN_non isN_int isN_str isN_tup isN_bl").splitOn " ").toArray.mapM fun n => let i:=Lean.mkIdent n.toName; `(Lean.Parser.Tactic.simpLemma| $i:ident)
 `(tactic| ((try dsimp only [$[$ls:simpLemma],*]); try simp only [*,$[$ls:simpLemma],*]))
section
variable {P : Program} {w : World} {K : PySem.W.Frag} {mg : Str -> Option Value} {base : Heap}
variable {d : Nat}
abbrev N_same : List Str:=["_law_one","_law_other"]
theorem sc_same : FnScope N_same N_same (defScope (top 41)):=sc_mk
theorem ok_same {f : Addr} {fd : FuncData} (g : G3 K mg "_law_same" (top 41) N_same f fd) (B : Bl mg) (F_same : Cal P w K mg base d "_law_same" (top 41) N_same (spSame d)) : Cal P w K mg base (d + 1) "_law_same" (top 41) N_same (spSame (d + 1)):=by
 refine ⟨f,fd,g,?_⟩
 refine fn3 g.fn sc_same (fun ts H Q h => ?_) (fun cdv A outer s H E ts H3 Q hr h => ?_)
 ·
  obtain ⟨t,_,rfl,_⟩:=h; rfl
 ·
  have hu30:=Room.u30 hr
  have hu31:=Room.u31 hr
  have hu1:=Room.u1 hr
  obtain ⟨t,_,rfl,hs,k⟩:=h
  replace hs : shn d t = true:=hs
  refine ⟨_,(ss3_cons (s3_if (t3_val (e3_callB c3_isi rfl B.isinstance_ bt_isinstance (a3_cons (v3 0) (a3_cons (b3_ty rfl B.tuple_ bt_tuple) a3_nil)))) (ss3_cons (s3_if (PW3.pt (w3_or (t3_not (t3_val (e3_callB c3_isi rfl B.isinstance_ bt_isinstance (a3_cons (v3 1) (a3_cons (b3_ty rfl B.tuple_ bt_tuple) a3_nil))))) (w3_or1 (t3_cmp (o3_ne hu30) (e3_callB c3_len rfl B.len_ bt_len (a3_cons (v3 0) a3_nil)) (e3_callB c3_len rfl B.len_ bt_len (a3_cons (v3 1) a3_nil)))))) (ss3_one (s3_ret c3_bl)) ss3_nil)
     (ss3_one (s3_ret (e3_cmp (o3_eq hu30) (e3_comp rfl (compSc (n0:=(defScope (top 41)).names) (N:=N_same) (N':=["_law_k","_law_one","_law_other"]) (nt:=1) (cap:=[0,1]) rfl rfl (by decide +kernel)) (i3_range1 rfl B.range_ (a3_cons (e3_callB c3_len rfl B.len_ bt_len (a3_cons (v3 0) a3_nil)) a3_nil)) (fun cl pins s H C0 fp => ⟨(g3_name (i:=0) (show List.Nodup [("_law_k" : Str),("_law_one" : Str),("_law_other" : Str)] by decide +kernel)),(if3_one (t3_not (t3_val (e3_cl0 F_same (hr.mono (Nat.le_refl _)) rfl (a3_cons (e3_ix ix3 (v3 1) (v3 0)) (a3_cons (e3_ix ix3 (v3 2) (v3 0)) a3_nil)))))),(v3 0)⟩)) (e3_lst a3_nil))))) ss3_nil)
    (ss3_cons (s3_if (PW3.pt (w3_or (t3_cmp o3_is (v3 0) c3_non) (w3_or1 (t3_cmp o3_is (v3 1) c3_non)))) (ss3_one (s3_ret (e3_and (e3_cmp o3_is (v3 0) c3_non) (e3_one (e3_cmp o3_is (v3 1) c3_non))))) ss3_nil)
    (ss3_one (s3_ret (e3_and (e3_cmp (o3_eq hu30) (e3_callB c3_isi rfl B.isinstance_ bt_isinstance (a3_cons (v3 0) (a3_cons (b3_ty rfl B.str_ bt_str) a3_nil))) (e3_callB c3_isi rfl B.isinstance_ bt_isinstance (a3_cons (v3 1) (a3_cons (b3_ty rfl B.str_ bt_str) a3_nil)))) (e3_and (e3_not (e3_callB c3_isi rfl B.isinstance_ bt_isinstance (a3_cons (v3 1) (a3_cons (b3_ty rfl B.bool_ bt_bool) a3_nil)))) (e3_one (e3_cmp (o3_eq hu30) (v3 0) (v3 1))))))))),?_⟩
  rw [show start3 N_same [t,t] = [some (t),some (t)] from rfl]
  have hsz : sizeLine = 16777216:=rfl
  cases t with
  | str x =>
   walk_at "rd"
   exact Fin3.of Sub3.refl k
  | int i =>
   walk_at "rd"
   exact Fin3.of Sub3.refl k
  | non =>
   walk_at "rd"
   exact Fin3.of Sub3.refl k
  | tup us =>
   cases d with
   | zero => cases hs
   | succ d =>
    have hs' : (decide (us.length <= sizeLine) && us.all (shn d)) = true:=hs
    rw [Bool.and_eq_true,decide_eq_true_iff,List.all_eq_true] at hs'
    obtain ⟨hl,hs'⟩:=hs'
    have hs2:=Box.mk hs'
    have k':=Box.mk k
    clear hs hs' k
    walk_at "rd"
    refine ⟨by first | trivial | omega,by omega,by omega,?_⟩
    rw [rng_0]
    rw [show cap3 1 [0,1] [some (T.tup us),some (T.tup us)] = [none,some (T.tup us),some (T.tup us)] from rfl]
    refine cIter_filt (fun (i : Nat) => T.int (i : Int)) (fun (i : Nat) => T.int (i : Int)) (fun _ => false) (List.range us.length) [some (T.tup us),some (T.tup us)] trivial (by rw [List.length_range]; omega) (fun i hi Q' hq => ?_) (fun i hi hpt Q' hq => nomatch hpt) (fun p hp => ?_)
    ·
     have hi':=List.mem_range.mp hi
     have x1 : atI us (i : Int) = some us[i]:=ix_get hi'
     clear k'
     walk_at "rd"
     exact ⟨us[i],by simp,rfl,hs2.out _ (List.getElem_mem hi'),hq⟩
    ·
     rw [List.filter_eq_nil_iff.mpr (fun _ _ h => (by cases h)),List.map_nil]
     refine ⟨by omega,fun p2 hp2 => ?_⟩
     have n2 : p ≠ p2:=ne3n up3_same hp2
     have hk:=k'.out
     have h2 : H3 p2 = none:=by rw [up3_ne (Ne.symm n2)] at hp2; exact hp2
     clear k' hs2
     walk_at "rd"
     have hb : up3 H3 p (.lst []) p2 = none:=by rw [up3_ne (Ne.symm n2)]; exact h2
     exact ⟨trivial,rfl,rfl,Fin3.of (Sub3.trans (Sub3.new hp) (Sub3.new hb)) hk⟩
  | bl b => cases d <;> cases hs
  | ref a => cases d <;> cases hs
  | ty n => cases d <;> cases hs
end
end M
namespace M
open PySem PySem.Spec PyProof.Rows L2 L3
local macro_rules | `(tactic| walk_at "cp") => `(tactic| dsimp only [cap3,List.replicate,List.map_cons,List.map_nil,List.cons_append,List.nil_append,List.getElem?_cons_zero,List.getElem?_cons_succ,Option.getD_some])
local macro_rules | `(tactic| walk_at "nx") => `(tactic| (obtain ⟨e⟩:=‹Shut (_ = _)›; subst e; try dsimp only))
local macro_rules | `(tactic| walk_at "rd") => do
 let ls <- ((nm0 ++ " q_is isN_non isN_int isN_str isN_tup isN_bl tOrT3 q_orN q_orT q_extT q_exT q_upper q_neR q_neRH q_dict q_dcH q_sumT q_revT q_rvT q_tSlT q_slT' q_diq q_diH tDIn3 q_ixHr").splitOn " ").toArray.mapM fun n => let i:=Lean.mkIdent n.toName; `(Lean.Parser.Tactic.simpLemma| $i:ident)
 `(tactic| ((try dsimp only [$[$ls:simpLemma],*]); try simp only [*,$[$ls:simpLemma],*]))
section
variable {P : Program} {w : World} {K : PySem.W.Frag} {mg : Str -> Option Value} {base : Heap}
abbrev N_put : List Str:=["_law_stands","_law_at_here","_law_task","_law_place","_law_stand"]
theorem sc_put : FnScope N_put ["_law_stands","_law_at_here","_law_task","_law_place"] (defScope (top 42)):=sc_mk
theorem ok_put {f : Addr} {fd : FuncData} (g : G3 K mg "_law_put" (top 42) ["_law_stands","_law_at_here","_law_task","_law_place"] f fd) (B : Bl mg) : Cal P w K mg base 1 "_law_put" (top 42) ["_law_stands","_law_at_here","_law_task","_law_place"] spPu:=by
 refine ⟨f,fd,g,?_⟩
 refine fn3 g.fn sc_put (fun ts H Q h => ?_) (fun cdv A outer s H E ts H3 Q hr h => ?_)
 ·
  obtain ⟨a,D,i,x,pl,rfl,_⟩:=h; rfl
 ·
  have hu30:=Room.u30 hr
  have hu31:=Room.u31 hr
  have hu1:=Room.u1 hr
  obtain ⟨a,D,i,x,pl,rfl,ha,hi,h9,h100,k⟩:=h
  refine ⟨_,(ss3_cons (s3_set (i:=4) sc_put.nd (e3_ix ix3 (v3 0) (v3 1)))
    (ss3_cons (s3_set (i:=3) sc_put.nd (e3_op o3_mod (v3 3) (e3_op o3_add (e3_callB c3_len rfl B.len_ bt_len (a3_cons (v3 4) a3_nil)) c3_int)))
    (ss3_one (s3_ret (e3_op o3_add (e3_op o3_add (e3_slice (v3 0) po3_none (po3_some (v3 1))) (e3_lst (a3_cons (e3_op o3_add (e3_op o3_add (e3_sliceT (v3 4) po3_none (po3_some (v3 3))) (e3_tup (a3_cons (v3 2) a3_nil))) (e3_sliceT (v3 4) (po3_some (v3 3)) po3_none)) a3_nil))) (e3_slice (v3 0) (po3_some (e3_op o3_add (v3 1) c3_int)) po3_none)))))),?_⟩
  rw [show start3 N_put [T.ref a,T.int (i : Int),T.str x,T.int pl] = [some (T.ref a),some (T.int (i : Int)),some (T.str x),some (T.int pl),none] from rfl]
  have hsz : sizeLine = 16777216:=rfl
  have k':=Box.mk k
  clear k
  obtain ⟨s,hs,hat⟩ : ∃ s,s ∈ D /\ atI (D.map sT) (i : Int) = some (sT s):=⟨D[i],List.getElem_mem hi,by rw [at_map,show atI D (i : Int) = some D[i] from atI_nat (List.getElem?_eq_getElem hi)]; rfl⟩
  have ls:=h100 s hs
  have hlp : 0 < (s.length : Int) + 1:=by omega
  obtain ⟨j,ej⟩:=Int.eq_ofNat_of_zero_le (Int.emod_nonneg pl (show (s.length : Int) + 1 ≠ 0 by omega))
  have c1 : cut3 (D.map sT) none (some (i : Int)) = (D.take i).map sT:=by rw [cut_to,List.map_take]
  have c2 : cut3 (D.map sT) (some ((i : Int) + 1)) none = (D.drop (i + 1)).map sT:=by rw [show (i : Int) + 1 = ((i + 1 : Nat) : Int) by omega,cut_from,List.map_drop]
  have c3 : cut3 (s.map T.str) none (some (j : Int)) = (s.take j).map T.str:=by rw [cut_to,List.map_take]
  have c4 : cut3 (s.map T.str) (some (j : Int)) none = (s.drop j).map T.str:=by rw [cut_from,List.map_drop]
  have lj : (s.take j).length <= s.length:=by rw [List.length_take]; omega
  have lk : (s.drop j).length <= s.length:=by rw [List.length_drop]; omega
  have li : (D.take i).length <= D.length:=by rw [List.length_take]; omega
  have lm : (D.drop (i + 1)).length <= D.length:=by rw [List.length_drop]; omega
  have fin : Box (∀ p,H3 p = none -> Q (.ref p) (up3 H3 p (.lst ((D.take i).map sT ++ [.tup ((s.take j).map T.str ++ [.str x] ++ (s.drop j).map T.str)] ++ (D.drop (i + 1)).map sT)))):=⟨fun p hp => by
   have:=k'.out (D.take i ++ [s.take j ++ [x] ++ s.drop j] ++ D.drop (i + 1)) p (by simp only [List.length_append,List.length_take,List.length_drop,List.length_singleton]; omega) (fun L hL z hz => ?_) hp
   ·
    simp only [List.map_append,List.map_cons,List.map_nil,sT] at this
    exact this
   ·
    rcases List.mem_append.mp hz with hz | hz
    ·
     rcases List.mem_append.mp hz with hz | hz
     ·
      exact Nat.le_succ_of_le (hL z (List.mem_of_mem_take hz))
     ·
      rw [List.mem_singleton.mp hz]
      have:=hL s hs
      simp only [List.length_append,List.length_take,List.length_drop,List.length_singleton]
      omega
    ·
     exact Nat.le_succ_of_le (hL z (List.mem_of_mem_drop hz))⟩
  unfold sT at hat
  rw [show (fun xs : List Str => T.tup (xs.map T.str)) = sT from rfl] at hat
  clear k' h100 hs
  refine seq_cut fun R0 hR0 => ?_
  walk_at "rd"
  walk_at "nx"
  refine seq_cut fun R1 hR1 => ?_
  walk_at "rd"
  refine ⟨by first | trivial | omega,?_⟩
  try rw [ej]
  walk_at "nx"
  have fin2:=Box.mk fin
  clear fin ej
  walk_at "rd"
  intro p1 hp1
  have na1 : a ≠ p1:=ne3n ha hp1
  walk_at "rd"
  simp only [List.length_append,List.length_map,List.length_cons,List.length_nil]
  refine ⟨by omega,by omega,by omega,by omega,fun p2 hp2 => ?_⟩
  have h2:=up3_none hp2
  have n12 : p1 ≠ p2:=h2.1.symm
  walk_at "rd"
  refine ⟨by omega,fun p3 hp3 => ?_⟩
  have na2 : a ≠ p2:=ne3n (by rw [up3_ne na1]; exact ha) hp2
  have na3 : a ≠ p3:=ne3n (by rw [up3_ne na2,up3_ne na1]; exact ha) hp3
  have sb:=((Sub3.new (o:=.lst ((D.take i).map sT)) hp1).trans (Sub3.new (o:=.lst [T.tup ((s.take j).map T.str ++ [T.str x] ++ (s.drop j).map T.str)]) hp2)).trans (Sub3.new (o:=.lst ((D.take i).map sT ++ [T.tup ((s.take j).map T.str ++ [T.str x] ++ (s.drop j).map T.str)])) hp3)
  have ga:=sb a _ ha
  generalize hH : up3 (up3 (up3 H3 p1 _) p2 _) p3 _ = H6 at sb ga ⊢
  have g3 : H6 p3 = some (.lst ((D.take i).map sT ++ [T.tup ((s.take j).map T.str ++ [T.str x] ++ (s.drop j).map T.str)])):=by rw [<- hH]; exact up3_same
  clear hH hp1 hp2 hp3 ha na1 na2 na3 h2 n12
  generalize hL : T.tup ((s.take j).map T.str ++ [T.str x] ++ (s.drop j).map T.str) = tx at *
  walk_at "rd"
  intro p4 hp4
  have n34 : p3 ≠ p4:=ne3n g3 hp4
  walk_at "rd"
  simp only [List.length_append,List.length_map,List.length_cons,List.length_nil]
  refine ⟨by omega,fun p5 hp5 => ?_⟩
  have h5:=up3_none hp5
  have f5:=sub_none sb h5.2
  refine Fin3.of (fun b o e => ?_) (fin2.out.out p5 f5)
  by_cases eb : b = p5
  ·
   subst eb; rw [up3_same] at e ⊢; exact e
  ·
   rw [up3_ne eb] at e ⊢
   have:=sb b o e
   rw [up3_ne (ne3n this hp4)]
   exact this
abbrev N_text : List Str:=["_law_deck","_law_signs"]
theorem sc_text : FnScope N_text ["_law_deck"] (defScope (top 43)):=sc_mk
theorem ok_text {f : Addr} {fd : FuncData} (g : G3 K mg "_law_text" (top 43) ["_law_deck"] f fd) (B : Bl mg) (F_draw : Cal P w K mg base 1 "_law_draw" (top 21) ["_law_deck","_law_most"] spDr) : Cal P w K mg base 2 "_law_text" (top 43) ["_law_deck"] spTe:=by
 refine ⟨f,fd,g,?_⟩
 refine fn3 g.fn sc_text (fun ts H Q h => ?_) (fun cdv A outer s H E ts H3 Q hr h => ?_)
 ·
  obtain ⟨d,rfl,_⟩:=h; rfl
 ·
  have hu30:=Room.u30 hr
  have hu31:=Room.u31 hr
  have hu1:=Room.u1 hr
  obtain ⟨d,rfl,hC,k⟩:=h
  refine ⟨_,(ss3_cons (s3_set (i:=1) sc_text.nd c3_str)
    (ss3_one (s3_ret (e3_bm PySem.F.plainAttrs_str PySem.F.slot_str_join PySem.F.type_str_join m3_join c3_str (a3_cons (e3_comp rfl (compSc (n0:=(defScope (top 43)).names) (N:=N_text) (N':=["_law_k","_law_signs","_law_deck"]) (nt:=1) (cap:=[1,0]) rfl rfl (by decide +kernel)) (i3_range1 rfl B.range_ (a3_cons (e3_cl F_draw hr rfl (a3_cons (v3 0) (a3_cons c3_int a3_nil))) a3_nil)) (fun cl pins s H C0 fp => ⟨(g3_name (i:=0) (show List.Nodup [("_law_k" : Str),("_law_signs" : Str),("_law_deck" : Str)] by decide +kernel)),if3_nil,(e3_ix ix3 (v3 1) (e3_cl F_draw hr rfl (a3_cons (v3 2) (a3_cons (e3_callB c3_len rfl B.len_ bt_len (a3_cons (v3 1) a3_nil)) a3_nil))))⟩)) a3_nil))))),?_⟩
  rw [show start3 N_text [T.ref d] = [some (T.ref d),none] from rfl]
  have hsz : sizeLine = 16777216:=rfl
  have k':=Box.mk k
  clear k
  have w0 : Wt d H3 H3 []:=⟨hC,Kep.refl,(fun _ h => nomatch h)⟩
  clear hC
  refine seq_cut fun R0 hR0 => ?_
  walk_at "rd"
  have hz1 : (" !\"#$&'()*+,-./0123456789:;<=>?@ABCDEFGHIJKLMNOPQRSTUVWXYZ[\\]^_`abcdefghijklmnopqrstuvwxyz{|}~\n" : Str).length = 95:=by decide +kernel
  have hz2 : (" !\"#$&'()*+,-./0123456789:;<=>?@ABCDEFGHIJKLMNOPQRSTUVWXYZ[\\]^_`abcdefghijklmnopqrstuvwxyz{|}~\n" : Str).cps.toList.length = 95:=by decide +kernel
  generalize (" !\"#$&'()*+,-./0123456789:;<=>?@ABCDEFGHIJKLMNOPQRSTUVWXYZ[\\]^_`abcdefghijklmnopqrstuvwxyz{|}~\n" : Str) = z at *
  walk_at "nx"
  walk_at "rd"
  refine ⟨by first | trivial | rfl,d,10,rfl,by decide,w0.cl,fun n H4 n0 n1 hD => ?_⟩
  have w1:=w0.drw hD
  clear w0 hD
  obtain ⟨m,rfl⟩:=Int.eq_ofNat_of_zero_le n0
  have m10 : m < 10:=by omega
  walk_at "rd"
  refine ⟨by first | trivial | omega,by omega,by omega,?_⟩
  rw [rng_0]; walk_at "cp"
  refine cIter_pre (fun (i : Nat) => T.int (i : Int)) (List.range m) (fun A ys σ H => ∃ (l : List Str) (v : Option T),σ = [v,some (.str z),some (.ref d)] /\ ys = l.map T.str /\ l.length = A.length /\ (∀ s ∈ l,s.length <= 1) /\ Wt d H3 H []) ⟨[],_,rfl,rfl,rfl,(fun _ h => nomatch h),w1⟩ ?_ ?_
  ·
   rintro ys σ H ⟨l,v,rfl,rfl,hl,h1,w⟩
   rw [List.length_range] at hl
   refine ⟨trivial,by rw [List.length_map]; omega,fun p hp => ?_⟩
   have es:=strs3_map l
   have eo : jOk "" l:=jOk_le h1 (by omega)
   have w2:=(w.new (o:=.lst (l.map T.str)) hp).tl
   clear h1
   walk_at "rd"
   refine ⟨by first | trivial | exact eo,?_⟩
   exact fin_drw w2.cl w2.kp fun H'' hD => k'.out _ H'' hD
  ·
   rintro A i B ys σ H N e ⟨l,v,rfl,rfl,hl,h1,w⟩ hN
   have hA : A.length < 10:=by
    have:=congrArg List.length e
    simp only [List.length_append,List.length_cons,List.length_range] at this
    omega
   have hN':=Box.mk hN
   have h1':=Box.mk h1
   clear hN e k' w1 h1
   refine ⟨trivial,?_⟩
   walk_at "rd"
   refine ⟨by omega,d,95,by first | rfl | simp [hz1],by decide,w.cl,fun n H5 n0 n1 hD => ?_⟩
   obtain ⟨c,_,hc⟩:=at_ex z.cps.toList n (by omega) (by rw [hz2]; exact n1)
   walk_at "rd"
   refine ⟨by omega,by omega,hN'.out _ _ _ ⟨l ++ [⟨#[c]⟩],_,rfl,by rw [List.map_append]; rfl,by rw [List.length_append,List.length_append,hl]; rfl,fun s hs => (List.mem_append.mp hs).elim (h1'.out s) fun q => by rw [List.mem_singleton.mp q]; exact Nat.le_refl 1,w.drw hD⟩⟩
abbrev N_spoiled : List Str:=["_law_deck","_law_works_here","_law_stands","_law_names_here","_law_way","_law_at_here","_law_place","_law_name","_law_some","_law_other"]
theorem sc_spoiled : FnScope N_spoiled ["_law_deck","_law_works_here","_law_stands"] (defScope (top 44)):=sc_mk
theorem ok_spoiled {f : Addr} {fd : FuncData} (g : G3 K mg "_law_spoiled" (top 44) ["_law_deck","_law_works_here","_law_stands"] f fd) (B : Bl mg) (F_put : Cal P w K mg base 1 "_law_put" (top 42) ["_law_stands","_law_at_here","_law_task","_law_place"] spPu) (F_draw : Cal P w K mg base 1 "_law_draw" (top 21) ["_law_deck","_law_most"] spDr) (F_text : Cal P w K mg base 2 "_law_text" (top 43) ["_law_deck"] spTe) : Cal P w K mg base 3 "_law_spoiled" (top 44) ["_law_deck","_law_works_here","_law_stands"] spSp:=by
 refine ⟨f,fd,g,?_⟩
 refine fn3 g.fn sc_spoiled (fun ts H Q h => ?_) (fun cdv A outer s H E ts H3 Q hr h => ?_)
 ·
  obtain ⟨d,a,W,D,L,rfl,_⟩:=h; rfl
 ·
  have hu30:=Room.u30 hr
  have hu31:=Room.u31 hr
  have hu1:=Room.u1 hr
  obtain ⟨d,a,W,D,L,rfl,had,hW,hC,ha,hBd,hL,k⟩:=h
  refine ⟨_,(ss3_cons (s3_setC (i:=3) rfl sc_spoiled.nd (compSc (n0:=(defScope (top 44)).names) (N:=N_spoiled) (N':=["_law_name","_law_length","_law_kinds_here"]) (nt:=3) (cap:=[]) rfl rfl (by decide +kernel)) (i3_tup (e3_ix ix3 (v3 1) c3_int)) (fun cl pins s H C0 fp => ⟨(g3_tup (n:=3) rfl (gs3_cons (g3_name (i:=0) (show List.Nodup [("_law_name" : Str),("_law_length" : Str),("_law_kinds_here" : Str)] by decide +kernel)) (gs3_cons (g3_name (i:=1) (show List.Nodup [("_law_name" : Str),("_law_length" : Str),("_law_kinds_here" : Str)] by decide +kernel)) (gs3_cons (g3_name (i:=2) (show List.Nodup [("_law_name" : Str),("_law_length" : Str),("_law_kinds_here" : Str)] by decide +kernel)) gs3_nil)))),if3_nil,(v3 0)⟩))
    (ss3_cons (s3_set (i:=4) sc_spoiled.nd (e3_cl F_draw hr rfl (a3_cons (v3 0) (a3_cons c3_int a3_nil))))
    (ss3_cons (s3_set (i:=5) sc_spoiled.nd (e3_cl F_draw hr rfl (a3_cons (v3 0) (a3_cons (e3_callB c3_len rfl B.len_ bt_len (a3_cons (v3 2) a3_nil)) a3_nil))))
    (ss3_cons (s3_set (i:=6) sc_spoiled.nd (e3_cl F_draw hr rfl (a3_cons (v3 0) (a3_cons c3_int a3_nil))))
    (ss3_cons (s3_set (i:=7) sc_spoiled.nd (e3_ix ix3 (v3 3) (e3_cl F_draw hr rfl (a3_cons (v3 0) (a3_cons (e3_callB c3_len rfl B.len_ bt_len (a3_cons (v3 3) a3_nil)) a3_nil)))))
    (ss3_cons (s3_if (t3_cmp (o3_eq hu30) (v3 4) c3_int) (ss3_cons (s3_set (i:=8) sc_spoiled.nd (e3_lst (a3_cons (e3_op o3_add (v3 7) c3_str) (a3_cons (e3_slice (v3 7) (po3_some c3_int) po3_none) (a3_cons (e3_bm0 PySem.F.plainAttrs_str PySem.F.slot_str_upper PySem.F.type_str_upper m3_upper (v3 7)) (a3_cons (e3_cl F_text hr rfl (a3_cons (v3 0) a3_nil)) a3_nil))))))
     (ss3_one (s3_ret (e3_cl F_put hr rfl (a3_cons (v3 2) (a3_cons (v3 5) (a3_cons (e3_ix ix3 (v3 8) (e3_cl F_draw hr rfl (a3_cons (v3 0) (a3_cons c3_int a3_nil)))) (a3_cons (v3 6) a3_nil)))))))) ss3_nil)
    (ss3_cons (s3_if (t3_cmp (o3_eq hu30) (v3 4) c3_int) (ss3_one (s3_ret (e3_cl F_put hr rfl (a3_cons (v3 2) (a3_cons (v3 5) (a3_cons (v3 7) (a3_cons (v3 6) a3_nil))))))) ss3_nil)
    (ss3_cons (s3_if (t3_cmp (o3_eq hu30) (v3 4) c3_int) (ss3_one (s3_ret (e3_comp rfl (compSc (n0:=(defScope (top 44)).names) (N:=N_spoiled) (N':=["_law_stand","_law_name"]) (nt:=1) (cap:=[7]) rfl rfl (by decide +kernel)) (i3_list (v3 2)) (fun cl pins s H C0 fp => ⟨(g3_name (i:=0) (show List.Nodup [("_law_stand" : Str),("_law_name" : Str)] by decide +kernel)),if3_nil,(e3_callTy c3_tuple rfl B.tuple_ bt_tuple (a3_cons (e3_comp rfl (compSc2 (n00:=(defScope (top 44)).names) (N:=["_law_stand","_law_name"]) (N':=["_law_task","_law_name"]) (nt:=1) (cap:=[1]) rfl rfl rfl (by decide +kernel)) (i3_tup (v3 0)) (fun cl pins s H C0 fp => ⟨(g3_name (i:=0) (show List.Nodup [("_law_task" : Str),("_law_name" : Str)] by decide +kernel)),(if3_one (t3_cmp (o3_ne hu30) (v3 0) (v3 1))),(v3 0)⟩)) a3_nil))⟩)))) ss3_nil)
    (ss3_cons (s3_if (t3_cmp (o3_eq hu30) (v3 4) c3_int) (ss3_cons (s3_set (i:=9) sc_spoiled.nd (e3_cl F_draw hr rfl (a3_cons (v3 0) (a3_cons (e3_callB c3_len rfl B.len_ bt_len (a3_cons (v3 2) a3_nil)) a3_nil))))
     (ss3_one (s3_ret (e3_comp rfl (compSc (n0:=(defScope (top 44)).names) (N:=N_spoiled) (N':=["_law_k","_law_stands","_law_at_here","_law_other"]) (nt:=1) (cap:=[2,5,9]) rfl rfl (by decide +kernel)) (i3_range1 rfl B.range_ (a3_cons (e3_callB c3_len rfl B.len_ bt_len (a3_cons (v3 2) a3_nil)) a3_nil)) (fun cl pins s H C0 fp => ⟨(g3_name (i:=0) (show List.Nodup [("_law_k" : Str),("_law_stands" : Str),("_law_at_here" : Str),("_law_other" : Str)] by decide +kernel)),if3_nil,(e3_ix ix3 (v3 1) (e3_ix ix3 (e3_lst (a3_cons (v3 0) (a3_cons (v3 2) (a3_cons (v3 3) a3_nil)))) (e3_op o3_add (e3_callTy c3_int' rfl B.int_ bt_int (a3_cons (e3_cmp (o3_eq hu30) (v3 0) (v3 3)) a3_nil)) (e3_op o3_mul c3_int (e3_callTy c3_int' rfl B.int_ bt_int (a3_cons (e3_and (e3_cmp (o3_eq hu30) (v3 0) (v3 2)) (e3_one (e3_cmp (o3_ne hu30) (v3 0) (v3 3)))) a3_nil))))))⟩))))) ss3_nil)
    (ss3_cons (s3_if (PW3.pt (w3_and (t3_cmp (o3_eq hu30) (v3 4) c3_int) (w3_and (t3_cmp o3_gt (e3_callB c3_len rfl B.len_ bt_len (a3_cons (v3 2) a3_nil)) c3_int) (w3_and1 (t3_cmp (o3_eq hu30) (v3 6) c3_int))))) (ss3_one (s3_ret (e3_slice (v3 2) po3_none (po3_some c3_int)))) ss3_nil)
    (ss3_cons (s3_if (PW3.pt (w3_and (t3_cmp (o3_eq hu30) (v3 4) c3_int) (w3_and1 (t3_cmp o3_lt (e3_callB c3_len rfl B.len_ bt_len (a3_cons (v3 2) a3_nil)) c3_int)))) (ss3_one (s3_ret (e3_op o3_add (v3 2) (e3_lst (a3_cons (e3_ix ix3 (e3_lst (a3_cons (e3_tup a3_nil) (a3_cons (e3_tup (a3_cons (v3 7) a3_nil)) a3_nil))) (e3_cl F_draw hr rfl (a3_cons (v3 0) (a3_cons c3_int a3_nil)))) a3_nil))))) ss3_nil)
    (ss3_cons (s3_setC (i:=8) rfl sc_spoiled.nd (compSc (n0:=(defScope (top 44)).names) (N:=N_spoiled) (N':=["_law_stand","_law_name"]) (nt:=1) (cap:=[7]) rfl rfl (by decide +kernel)) (i3_list (v3 2)) (fun cl pins s H C0 fp => ⟨(g3_name (i:=0) (show List.Nodup [("_law_stand" : Str),("_law_name" : Str)] by decide +kernel)),if3_nil,(e3_callTy c3_tuple rfl B.tuple_ bt_tuple (a3_cons (e3_comp rfl (compSc2 (n00:=(defScope (top 44)).names) (N:=["_law_stand","_law_name"]) (N':=["_law_task","_law_name"]) (nt:=1) (cap:=[1]) rfl rfl rfl (by decide +kernel)) (i3_tup (v3 0)) (fun cl pins s H C0 fp => ⟨(g3_name (i:=0) (show List.Nodup [("_law_task" : Str),("_law_name" : Str)] by decide +kernel)),(if3_one (t3_cmp (o3_ne hu30) (v3 0) (v3 1))),(v3 0)⟩)) a3_nil))⟩))
    (ss3_one (s3_ret (e3_cl F_put hr rfl (a3_cons (v3 8) (a3_cons (v3 5) (a3_cons (v3 7) (a3_cons (v3 6) a3_nil))))))))))))))))))),?_⟩
  rw [show start3 N_spoiled [T.ref d,W.enc,T.ref a] = [some (T.ref d),some (W.enc),some (T.ref a),none,none,none,none,none,none,none] from rfl]
  have hsz : sizeLine = 16777216:=rfl
  have k':=Box.mk k
  clear k
  have t8 : W.tasks.length <= 8:=hW.t8
  have t1 : 1 <= W.tasks.length:=hW.t1
  have hnm : Box (∀ n ∈ W.tasks.map (·.1),n.length <= 8):=⟨fun n h => by obtain ⟨t,ht,rfl⟩:=List.mem_map.mp h; exact (hW.tk t ht).nm.hi⟩
  have w0 : Wt d H3 H3 []:=⟨hC,Kep.refl,(fun _ h => nomatch h)⟩
  have fin : Box (∀ (D' : List (List Str)) (H' : Hp3) (p : Addr) (fs : List (Addr × O3)),Bd (L + 1) D' -> Wt d H3 H' fs -> H' p = none -> Fin3 Q (.ref p) (up3 H' p (.lst (D'.map sT)))):=⟨fun D' H' p fs hb w hp => fin_drw2 (w.new hp).cl (w.new hp).kp up3_same (w.fresh hp) (w.cl.ne hp) fun H1 hD h1 => k'.out D' H1 p hb hD h1⟩
  have hB:=Box.mk hBd
  have h9:=hBd.hi
  have h1:=hBd.lo
  clear hC hW k' hBd
  refine seq_cut fun R0 hR0 => ?_
  walk_at "rd"
  walk_at "cp"
  refine cIter_f3 (fun t : Str × Int × List Str => .str t.1) (fun t => .int t.2.1) (fun t => .tup (t.2.2.map T.str)) (fun t => T.str t.1) (fun _ => true) W.tasks [] trivial (by omega) (fun t ht Q' hq => hq) (fun t ht _ Q' hq => ?_) (fun pn hpn => ?_)
  ·
   clear fin hR0
   walk_at "rd"
   try exact hq
  rw [List.filter_eq_self.mpr (fun _ _ => rfl)]
  have en : W.tasks.map (fun t => T.str t.1) = (W.tasks.map (·.1)).map T.str:=by rw [List.map_map]; rfl
  rw [en]
  have hnl : (W.tasks.map (·.1)).length = W.tasks.length:=List.length_map _
  generalize W.tasks.map (·.1) = ns at *
  have n8 : ns.length <= 8:=by omega
  have n1 : 1 <= ns.length:=by omega
  clear en hnl
  have w1:=w0.new (o:=.lst (ns.map T.str)) hpn
  generalize up3 H3 pn (.lst (ns.map T.str)) = H4 at w1 ⊢
  clear w0 hpn
  walk_at "nx"
  refine seq_cut fun R1 hR1 => ?_
  walk_at "rd"
  refine ⟨d,7,rfl,by decide,w1.cl,fun way H5 _ _ hD => ?_⟩
  have w2:=w1.drw hD
  clear w1 hD
  walk_at "nx"
  have ga:=w2.kp a _ ha had
  refine seq_cut fun R2 hR2 => ?_
  walk_at "rd"
  refine ⟨d,_,rfl,by omega,w2.cl,fun at_ H6 i0 i1 hD => ?_⟩
  have w3:=w2.drw hD
  clear w2 hD ga
  obtain ⟨i,rfl⟩:=Int.eq_ofNat_of_zero_le i0
  have hi : i < D.length:=by omega
  clear i0 i1
  walk_at "nx"
  refine seq_cut fun R3 hR3 => ?_
  walk_at "rd"
  refine ⟨d,8,rfl,by decide,w3.cl,fun pl H7 _ _ hD => ?_⟩
  have w4:=w3.drw hD
  clear w3 hD
  walk_at "nx"
  have gn:=w4.hd
  refine seq_cut fun R4 hR4 => ?_
  walk_at "rd"
  refine ⟨d,_,rfl,by omega,w4.cl,fun j H8 j0 j1 hD => ?_⟩
  have w5:=w4.drw hD
  clear w4 hD gn
  have gn:=w5.hd
  obtain ⟨nm,hnm1,hnm2⟩:=at_ex ns j j0 j1
  have x1 : atI (ns.map T.str) j = some (.str nm):=by rw [at_map,hnm2]; rfl
  have ln:=hnm.out nm hnm1
  walk_at "rd"
  clear hnm hnm1 hnm2 x1 j0 j1 gn
  walk_at "nx"
  have ga:=w5.kp a _ ha had
  have bd2 : Box (∀ D' : List (List Str),D'.length = D.length -> (∀ L,(∀ s ∈ D,s.length <= L) -> ∀ s ∈ D',s.length <= L + 1) -> Bd (L + 1) D'):=⟨fun D' e h => ⟨by omega,by omega,h L hB.out.ln⟩⟩
  have h100 : Box (∀ s ∈ D,s.length <= 100):=⟨fun s hs => Nat.le_trans (hB.out.ln s hs) hL⟩
  refine seq_cut fun R5 hR5 => ?_
  walk_at "rd"
  by_cases c0 : way = 0
  ·
   rw [decide_eq_true c0,if_pos rfl]
   clear hR5 c0
   have lq : ("q" : Str).length = 1:=by decide +kernel
   refine ⟨by omega,by omega,trivial,by omega,fun y hy => ⟨d,rfl,w5.cl,fun y2 H9 hD => ⟨by decide,fun p hp => ?_⟩⟩⟩
   have w6:=(w5.drw hD).new (o:=.lst [T.str (nm ++ "q"),T.str (PySem.Txt.slice nm (some 1) none),T.str y,T.str y2]) hp
   generalize up3 H9 p _ = H10 at w6 ⊢
   clear w5 hD hp
   refine ⟨d,4,rfl,by decide,w6.cl,fun n H11 m0 m1 hD => ?_⟩
   have w7:=w6.drw hD
   clear w6 hD
   have g2:=w7.hd
   obtain ⟨b,hbm,hb'⟩:=at_ex ([nm ++ "q",PySem.Txt.slice nm (some 1) none,y,y2] : List Str) n (by omega) (by show n < 4; omega)
   have hb2 : atI [T.str (nm ++ "q"),T.str (PySem.Txt.slice nm (some 1) none),T.str y,T.str y2] n = some (T.str b):=by
    have:=at_map T.str ([nm ++ "q",PySem.Txt.slice nm (some 1) none,y,y2] : List Str) n
    rw [hb'] at this
    exact this
   walk_at "rd"
   exact ⟨a,D,i,b,pl,rfl,w7.kp a _ ha had,hi,h9,h100.out,fun D' p e1 e2 hp => fin.out D' _ p _ (bd2.out D' e1 e2) w7 hp⟩
  rw [decide_eq_false c0,if_neg Bool.false_ne_true]
  clear c0
  walk_at "nx"
  refine seq_cut fun R6 hR6 => ?_
  walk_at "rd"
  by_cases c0 : way = 1
  ·
   rw [decide_eq_true c0,if_pos rfl]
   exact ⟨a,D,i,nm,pl,rfl,ga,hi,h9,h100.out,fun D' p e1 e2 hp => fin.out D' _ p _ (bd2.out D' e1 e2) w5 hp⟩
  rw [decide_eq_false c0,if_neg Bool.false_ne_true]
  clear c0
  walk_at "nx"
  refine seq_cut fun R7 hR7 => ?_
  walk_at "rd"
  by_cases c0 : way = 2
  ·
   rw [decide_eq_true c0,if_pos rfl]
   clear hR7
   walk_at "cp"
   refine cIter_pre sT D (fun A ys σ H' => ∃ v : Option T,σ = [v,some (.str nm)] /\ ys = (A.map fun s => s.filter fun n => !decide (n = nm)).map sT /\ Wt d H3 H' [(pn,.lst (ns.map T.str))] /\ H' a = some (.lst (D.map sT))) ⟨_,rfl,rfl,w5,ga⟩ ?_ ?_
   rotate_left
   ·
    rintro A s B ys σ H' N e ⟨v,rfl,rfl,w,ga⟩ hN
    have hA : A.length < 9:=by
     have:=congrArg List.length e
     have:=hB.out.hi
     simp only [List.length_append,List.length_cons] at *
     omega
    have ls : s.length <= 100:=Nat.le_trans (hB.out.ln s (by rw [e]; simp)) hL
    have hN':=Box.mk hN
    clear hN e fin
    refine ⟨.inl ga,?_⟩
    simp only [sT]
    walk_at "rd"
    walk_at "cp"
    refine cIter_filt T.str T.str (fun n => !decide (n = nm)) s [some (.str nm)] trivial (by omega) (fun n hn Q' hq => ?_) (fun n hn _ Q' hq => ?_) (fun p hp => ?_)
    ·
     clear hN'
     walk_at "rd"
    ·
     clear hN'
     walk_at "rd"
    ·
     try simp only [List.length_map]
     walk_at "rd"
     refine ⟨by omega,?_⟩
     refine hN'.out _ _ _ ⟨_,rfl,by simp only [List.map_append,List.map_cons,List.map_nil,sT],(w.new hp).tl,?_⟩
     rw [up3_ne (ne3n ga hp)]
     exact ga
   rintro ys σ H' ⟨v,rfl,rfl,w,ga⟩
   refine ⟨.inl ga,by rw [List.length_map,List.length_map]; have:=hB.out.hi; omega,fun p hp => ?_⟩
   exact fin.out _ _ p _ ⟨by rw [List.length_map]; omega,by rw [List.length_map]; omega,fun s hs => by obtain ⟨s',h',rfl⟩:=List.mem_map.mp hs; exact Nat.le_succ_of_le (Nat.le_trans (List.length_filter_le _ _) (hB.out.ln s' h'))⟩ w hp
  rw [decide_eq_false c0,if_neg Bool.false_ne_true]
  clear c0
  walk_at "nx"
  refine seq_cut fun R8 hR8 => ?_
  walk_at "rd"
  by_cases c0 : way = 3
  ·
   rw [decide_eq_true c0,if_pos rfl]
   clear hR8 c0
   refine ⟨d,_,rfl,by omega,w5.cl,fun o H9 o0 o1 hD => ?_⟩
   have w6:=w5.drw hD
   clear w5 hD ga
   have ga:=w6.kp a _ ha had
   obtain ⟨o,rfl⟩:=Int.eq_ofNat_of_zero_le o0
   have ho : o < D.length:=by omega
   clear o0 o1
   walk_at "rd"
   refine ⟨by first | trivial | omega,by omega,by omega,?_⟩
   rw [rng_0]; walk_at "cp"
   refine cIter_pre (fun (k : Nat) => T.int (k : Int)) (List.range D.length) (fun A ys σ H' => ∃ (F : List (List Str)) (v : Option T),σ = [v,some (.ref a),some (.int (i : Int)),some (.int (o : Int))] /\ ys = F.map sT /\ F.length = A.length /\ Box (∀ s ∈ F,s ∈ D) /\ Wt d H3 H' [(pn,.lst (ns.map T.str))] /\ H' a = some (.lst (D.map sT))) ⟨[],_,rfl,rfl,rfl,⟨fun _ h => nomatch h⟩,w6,ga⟩ ?_ ?_
   ·
    rintro ys σ H' ⟨F,v,rfl,rfl,hl,hF,w,ga⟩
    rw [List.length_range] at hl
    refine ⟨trivial,by rw [List.length_map]; omega,fun p hp => ?_⟩
    exact fin.out _ _ p _ ⟨by omega,by omega,fun s hs => Nat.le_succ_of_le (hB.out.ln s (hF.out s hs))⟩ w hp
   ·
    rintro A k B ys σ H' N e ⟨F,v,rfl,rfl,hl,hF,w,ga⟩ hN
    have hk : k < D.length:=List.mem_range.mp (by rw [e]; simp)
    have hA : A.length < 9:=by
     have:=congrArg List.length e
     simp only [List.length_append,List.length_cons,List.length_range] at this
     omega
    have hN':=Box.mk hN
    clear hN e w6 fin
    refine ⟨trivial,?_⟩
    walk_at "rd"
    refine ⟨by decide,fun p hp => ?_⟩
    have wn:=(w.new (o:=.lst [T.int (k : Int),T.int (i : Int),T.int (o : Int)]) hp).tl
    have ga2 : up3 H' p (.lst [T.int (k : Int),T.int (i : Int),T.int (o : Int)]) a = some (.lst (D.map sT)):=by rw [up3_ne (ne3n ga hp)]; exact ga
    generalize up3 H' p (.lst [T.int (k : Int),T.int (i : Int),T.int (o : Int)]) = H10 at *
    clear ga w hp
    have key : ∀ z : Nat,z < D.length -> r3Ix (T.ref a) (T.int (z : Int)) H10 fun y H4 => A.length < 16777216 /\ N (F.map sT ++ [y]) [some (T.int (k : Int)),some (T.ref a),some (T.int (i : Int)),some (T.int (o : Int))] H4:=fun z hz => by
     have x2 : atI (D.map sT) (z : Int) = some (sT D[z]):=by rw [at_map,show atI D (z : Int) = some D[z] from atI_nat (List.getElem?_eq_getElem hz)]; rfl
     walk_at "rd"
     exact ⟨by omega,hN'.out _ _ _ ⟨F ++ [D[z]],_,rfl,by rw [List.map_append]; rfl,by rw [List.length_append,List.length_append,hl]; rfl,⟨fun s hs => (List.mem_append.mp hs).elim (hF.out s) fun q => by rw [List.mem_singleton.mp q]; exact List.getElem_mem hz⟩,wn,ga2⟩⟩
    generalize decide ((k : Int) = (i : Int)) = b1
    generalize decide ((k : Int) = (o : Int)) = b2
    cases b1 <;> cases b2
    ·
     exact ⟨.inl ⟨by decide,by decide⟩,key k hk⟩
    ·
     exact ⟨.inl ⟨by decide,by decide⟩,key i hi⟩
    ·
     exact ⟨.inl ⟨by decide,by decide⟩,key o ho⟩
    ·
     exact ⟨.inl ⟨by decide,by decide⟩,key i hi⟩
  rw [decide_eq_false c0,if_neg Bool.false_ne_true]
  clear c0
  walk_at "nx"
  refine seq_cut fun R9 hR9 => ?_
  walk_at "rd"
  have key : R9 { nx:=fun _ H' => Fin3 Q .non H',rt:=Fin3 Q } [some (.ref d),some (W.enc),some (.ref a),some (.ref pn),some (.int way),some (.int (i : Int)),some (.int pl),some (.str nm),none,none] H8:=by
   walk_at "nx"
   refine seq_cut fun R10 hR10 => ?_
   walk_at "rd"
   have key2 : R10 { nx:=fun _ H' => Fin3 Q .non H',rt:=Fin3 Q } [some (.ref d),some (W.enc),some (.ref a),some (.ref pn),some (.int way),some (.int (i : Int)),some (.int pl),some (.str nm),none,none] H8:=by
    walk_at "nx"
    refine seq_cut fun R11 hR11 => ?_
    walk_at "rd"
    walk_at "cp"
    refine cIter_pre sT D (fun A ys σ H' => ∃ v : Option T,σ = [v,some (.str nm)] /\ ys = (A.map fun s => s.filter fun n => !decide (n = nm)).map sT /\ Wt d H3 H' [(pn,.lst (ns.map T.str))] /\ H' a = some (.lst (D.map sT))) ⟨_,rfl,rfl,w5,ga⟩ ?_ ?_
    rotate_left
    ·
     rintro A s B ys σ H' N e ⟨v,rfl,rfl,w,ga⟩ hN
     have hA : A.length < 9:=by
      have:=congrArg List.length e
      have:=hB.out.hi
      simp only [List.length_append,List.length_cons] at *
      omega
     have ls : s.length <= 100:=Nat.le_trans (hB.out.ln s (by rw [e]; simp)) hL
     have hN':=Box.mk hN
     clear hN e fin
     refine ⟨.inl ga,?_⟩
     simp only [sT]
     walk_at "rd"
     walk_at "cp"
     refine cIter_filt T.str T.str (fun n => !decide (n = nm)) s [some (.str nm)] trivial (by omega) (fun n hn Q' hq => ?_) (fun n hn _ Q' hq => ?_) (fun p hp => ?_)
     ·
      clear hN'
      walk_at "rd"
     ·
      clear hN'
      walk_at "rd"
     ·
      try simp only [List.length_map]
      walk_at "rd"
      refine ⟨by omega,?_⟩
      refine hN'.out _ _ _ ⟨_,rfl,by simp only [List.map_append,List.map_cons,List.map_nil,sT],(w.new hp).tl,?_⟩
      rw [up3_ne (ne3n ga hp)]
      exact ga
    rintro ys σ H' ⟨v,rfl,rfl,w,ga⟩
    refine ⟨.inl ga,by rw [List.length_map,List.length_map]; have:=hB.out.hi; omega,fun p hp => ?_⟩
    walk_at "nx"
    have g2 : up3 H' p (.lst ((D.map fun s => s.filter fun n => !decide (n = nm)).map sT)) p = some (.lst ((D.map fun s => s.filter fun n => !decide (n = nm)).map sT)):=up3_same
    have w7:=(w.new (o:=.lst ((D.map fun s => s.filter fun n => !decide (n = nm)).map sT)) hp).tl
    generalize up3 H' p (.lst ((D.map fun s => s.filter fun n => !decide (n = nm)).map sT)) = H9 at g2 w7 ⊢
    have b1 : Box (∀ M,(∀ s ∈ D,s.length <= M) -> ∀ s ∈ D.map fun s => s.filter fun n => !decide (n = nm),s.length <= M):=⟨fun M h s hs => by obtain ⟨s',h',rfl⟩:=List.mem_map.mp hs; exact Nat.le_trans (List.length_filter_le _ _) (h s' h')⟩
    have b2 : (D.map fun s => s.filter fun n => !decide (n = nm)).length = D.length:=List.length_map _
    generalize (D.map fun s => s.filter fun n => !decide (n = nm)) = D2 at *
    clear w hp ga
    walk_at "rd"
    exact ⟨p,D2,i,nm,pl,rfl,g2,by omega,by omega,b1.out 100 h100.out,fun D' p' e1 e2 hp' => fin.out D' _ p' _ (bd2.out D' (by omega) fun M hM => e2 M (b1.out M hM)) w7 hp'⟩
   clear hR10
   split
   ·
    split
    ·
     rename_i c9
     have c9' : D.length < 9:=by rw [decide_eq_true_iff] at c9; omega
     clear key2 c9
     refine ⟨by decide,by decide,by decide,fun p hp => ?_⟩
     have w6:=w5.new (o:=.lst ([[],[nm]].map sT)) hp
     rw [show [T.tup [],T.tup [T.str nm]] = ([[],[nm]] : List (List Str)).map sT from rfl]
     generalize up3 H8 p (.lst ([[],[nm]].map sT)) = H9 at w6 ⊢
     clear w5 hp ga
     refine ⟨d,2,rfl,by decide,w6.cl,fun n H10 m0 m1 hD => ?_⟩
     have w7:=w6.drw hD
     clear w6 hD
     have g2:=w7.hd
     have ga:=w7.kp a _ ha had
     obtain ⟨b,hbm,hb'⟩:=at_ex ([[],[nm]] : List (List Str)) n (by omega) (by show n < 2; omega)
     have hb2 : atI (([[],[nm]] : List (List Str)).map sT) n = some (sT b):=by rw [at_map,hb']; rfl
     have lb : b.length <= 1:=by
      simp only [List.mem_cons,List.not_mem_nil,or_false] at hbm
      rcases hbm with rfl | rfl <;> simp
     clear hbm hb'
     show r3Ix (T.ref p) (T.int n) H10 _
     rw [q_ixL,g2,q_ixH,hb2,q_oq]
     refine ⟨by decide,fun p2 hp2 => ?_⟩
     have na2 : a ≠ p2:=ne3n ga hp2
     have w8:=(w7.new (o:=.lst [sT b]) hp2).tl
     rw [up3_ne na2,ga,q_catH]
     refine ⟨by rw [List.length_map,List.length_singleton]; omega,fun p3 hp3 => ?_⟩
     rw [show D.map sT ++ [sT b] = (D ++ [b]).map sT by rw [List.map_append]; rfl]
     exact fin.out _ _ p3 _ ⟨by rw [List.length_append]; omega,by rw [List.length_append,List.length_singleton]; omega,fun s hs => (List.mem_append.mp hs).elim (fun q => Nat.le_succ_of_le (hB.out.ln s q)) fun q => by rw [List.mem_singleton.mp q]; omega⟩ w8 hp3
    ·
     exact key2
   ·
    exact key2
  clear hR9
  split
  ·
   split
   ·
    split
    ·
     intro p hp
     rw [show (1 : Int) = ((1 : Nat) : Int) from rfl,cut_to,<- List.map_take]
     exact fin.out _ _ p _ ⟨by rw [List.length_take]; omega,by rw [List.length_take]; omega,fun s hs => Nat.le_succ_of_le (hB.out.ln s (List.mem_of_mem_take hs))⟩ w5 hp
    ·
     exact key
   ·
    exact key
  ·
   exact key
abbrev N_beat : List Str:=["_law_deck","_law_works_here","_law_lengths_here","_law_bits","_law_some","_law_total"]
theorem sc_beat : FnScope N_beat ["_law_deck","_law_works_here"] (defScope (top 32)):=sc_mk
theorem ok_beat {f : Addr} {fd : FuncData} (g : G3 K mg "_law_beat" (top 32) ["_law_deck","_law_works_here"] f fd) (B : Bl mg) (F_draw : Cal P w K mg base 1 "_law_draw" (top 21) ["_law_deck","_law_most"] spDr) (F_great : Cal P w K mg base 2 "_law_great" (top 22) ["_law_deck","_law_most"] spGr) : Cal P w K mg base 3 "_law_beat" (top 32) ["_law_deck","_law_works_here"] spBt:=by
 refine ⟨f,fd,g,?_⟩
 refine fn3 g.fn sc_beat (fun ts H Q h => ?_) (fun cdv A outer s H E ts H3 Q hr h => ?_)
 ·
  obtain ⟨d,W,rfl,_⟩:=h; rfl
 ·
  have hu30:=Room.u30 hr
  have hu31:=Room.u31 hr
  have hu1:=Room.u1 hr
  obtain ⟨d,W,rfl,hW,hC,k⟩:=h
  refine ⟨_,(ss3_cons (s3_set (i:=2) sc_beat.nd (e3_comp rfl (compSc (n0:=(defScope (top 32)).names) (N:=N_beat) (N':=["_law_name","_law_length","_law_kinds_here"]) (nt:=3) (cap:=[]) rfl rfl (by decide +kernel)) (i3_tup (e3_ix ix3 (v3 1) c3_int)) (fun cl pins s H C0 fp => ⟨(g3_tup (n:=3) rfl (gs3_cons (g3_name (i:=0) (show List.Nodup [("_law_name" : Str),("_law_length" : Str),("_law_kinds_here" : Str)] by decide +kernel)) (gs3_cons (g3_name (i:=1) (show List.Nodup [("_law_name" : Str),("_law_length" : Str),("_law_kinds_here" : Str)] by decide +kernel)) (gs3_cons (g3_name (i:=2) (show List.Nodup [("_law_name" : Str),("_law_length" : Str),("_law_kinds_here" : Str)] by decide +kernel)) gs3_nil)))),if3_nil,(v3 1)⟩)))
    (ss3_cons (s3_set (i:=3) sc_beat.nd (e3_cl F_draw hr rfl (a3_cons (v3 0) (a3_cons (e3_op o3_shl c3_int (e3_callB c3_len rfl B.len_ bt_len (a3_cons (v3 2) a3_nil))) a3_nil))))
    (ss3_cons (s3_set (i:=4) sc_beat.nd (e3_callB (c3_sum rfl) rfl B.sum_ bt_sum (a3_cons (e3_comp rfl (compSc (n0:=(defScope (top 32)).names) (N:=N_beat) (N':=["_law_k","_law_lengths_here","_law_bits"]) (nt:=1) (cap:=[2,3]) rfl rfl (by decide +kernel)) (i3_range1 rfl B.range_ (a3_cons (e3_callB c3_len rfl B.len_ bt_len (a3_cons (v3 2) a3_nil)) a3_nil)) (fun cl pins s H C0 fp => ⟨(g3_name (i:=0) (show List.Nodup [("_law_k" : Str),("_law_lengths_here" : Str),("_law_bits" : Str)] by decide +kernel)),(if3_one (t3_cmp (o3_eq hu30) (e3_op o3_and (e3_op o3_shr (v3 2) (v3 0)) c3_int) c3_int)),(e3_ix ix3 (v3 1) (v3 0))⟩)) a3_nil)))
    (ss3_cons (s3_set (i:=5) sc_beat.nd (e3_callB (c3_sum rfl) rfl B.sum_ bt_sum (a3_cons (v3 2) a3_nil)))
    (ss3_one (s3_ret (e3_ix ix3 (e3_lst (a3_cons (v3 4) (a3_cons (e3_callB (c3_max2 rfl) rfl B.max_ bt_max (a3_cons c3_int (a3_cons (e3_op o3_sub (v3 4) c3_int) a3_nil))) (a3_cons (e3_op o3_add (v3 4) c3_int) (a3_cons (v3 5) (a3_cons (e3_callB (c3_max1 rfl) rfl B.max_ bt_max (a3_cons (v3 2) a3_nil)) (a3_cons (e3_cl F_great hr rfl (a3_cons (v3 0) (a3_cons (e3_op o3_pow c3_int c3_int) a3_nil))) a3_nil))))))) (e3_cl F_draw hr rfl (a3_cons (v3 0) (a3_cons c3_int a3_nil)))))))))),?_⟩
  rw [show start3 N_beat [T.ref d,W.enc] = [some (T.ref d),some (W.enc),none,none,none,none] from rfl]
  have hsz : sizeLine = 16777216:=rfl
  have k':=Box.mk k
  clear k
  have t8 : W.tasks.length <= 8:=hW.t8
  have t1 : 1 <= W.tasks.length:=hW.t1
  have w0 : Wt d H3 H3 []:=⟨hC,Kep.refl,(fun _ h => nomatch h)⟩
  clear hC hW
  refine seq_cut fun R0 hR0 => ?_
  walk_at "rd"
  walk_at "cp"
  refine cIter_f3 (fun t : Str × Int × List Str => .str t.1) (fun t => .int t.2.1) (fun t => .tup (t.2.2.map T.str)) (fun t => T.int t.2.1) (fun _ => true) W.tasks [] trivial (by omega) (fun t ht Q' hq => hq) (fun t ht _ Q' hq => ?_) (fun pl hpl => ?_)
  ·
   clear k' hR0
   walk_at "rd"
   try exact hq
  rw [List.filter_eq_self.mpr (fun _ _ => rfl)]
  have en : W.tasks.map (fun t => T.int t.2.1) = (W.tasks.map (·.2.1)).map T.int:=by rw [List.map_map]; rfl
  rw [en]
  have hll : (W.tasks.map (·.2.1)).length = W.tasks.length:=List.length_map _
  generalize W.tasks.map (·.2.1) = ls at *
  have l8 : ls.length <= 8:=by omega
  have l1 : 1 <= ls.length:=by omega
  clear en hll
  have w1:=w0.new (o:=.lst (ls.map T.int)) hpl
  generalize up3 H3 pl (.lst (ls.map T.int)) = H4 at w1 ⊢
  clear w0 hpl
  walk_at "nx"
  have g1:=w1.hd
  refine seq_cut fun R1 hR1 => ?_
  walk_at "rd"
  refine ⟨⟨by omega,by omega,by decide⟩,d,_,rfl,by rw [Int.one_mul]; exact Int.pow_pos (by decide),w1.cl,fun bits H5 _ _ hD => ?_⟩
  have w2:=w1.drw hD
  clear w1 hD g1
  walk_at "nx"
  have g1:=w2.hd
  refine seq_cut fun R2 hR2 => ?_
  walk_at "rd"
  refine ⟨by first | trivial | omega,by omega,by omega,?_⟩
  rw [rng_0]
  walk_at "cp"
  refine cIter_filt (fun (i : Nat) => T.int (i : Int)) (fun i => T.int (ls.getD i 0)) (fun i => decide (Builtin.bitAnd (bits / 2 ^ i) 1 = 1)) (List.range ls.length) [some (.ref pl),some (.int bits)] (still:=still0) (H:=H5) trivial (by rw [List.length_range]; omega) (fun i hi Q' hq => ?_) (fun i hi hpt Q' hq => ?_) ?_
  ·
   have hq':=Box.mk hq
   clear hq k' hR2
   walk_at "rd"
   exact ⟨by omega,hq'.out⟩
  ·
   have hq':=Box.mk hq
   have x1:=gI_at (List.mem_range.mp hi)
   clear hq k' hR2
   walk_at "rd"
   exact hq'.out
  intro pc hpc
  have ei : ints3 (((List.range ls.length).filter (fun i => decide (Builtin.bitAnd (bits / 2 ^ i) 1 = 1))).map fun i => T.int (ls.getD i 0)) = some (((List.range ls.length).filter (fun i => decide (Builtin.bitAnd (bits / 2 ^ i) 1 = 1))).map fun i => ls.getD i 0):=by
   rw [<- ints3_map,List.map_map]; rfl
  rw [ei,q_oq]
  generalize (((List.range ls.length).filter (fun i => decide (Builtin.bitAnd (bits / 2 ^ i) 1 = 1))).map fun i => ls.getD i 0).sum = sm
  have w3:=(w2.new (o:=.lst (((List.range ls.length).filter (fun i => decide (Builtin.bitAnd (bits / 2 ^ i) 1 = 1))).map fun i => T.int (ls.getD i 0))) hpc).tl
  generalize up3 H5 pc _ = H6 at w3 ⊢
  clear w2 hpc ei g1
  walk_at "nx"
  have g1:=w3.hd
  have ei:=ints3_map ls
  refine seq_cut fun R3 hR3 => ?_
  walk_at "rd"
  walk_at "nx"
  generalize ls.sum = tot
  walk_at "rd"
  refine ⟨by intro e; rw [e] at l1; simp at l1,fun mx hm _ => ?_⟩
  generalize (if sm - 1 > 0 then sm - 1 else 0) = mz
  clear hm g1 ei
  refine ⟨⟨by decide,by decide,by decide⟩,d,_,rfl,by decide,w3.cl,fun gr H7 _ _ hD => ?_⟩
  have w4:=w3.drw hD
  clear w3 hD
  refine ⟨by decide,fun p hp => ?_⟩
  have w5:=w4.new (o:=.lst [T.int sm,T.int mz,T.int (sm + 1),T.int tot,T.int mx,T.int gr]) hp
  generalize up3 H7 p _ = H8 at w5 ⊢
  clear w4 hp
  refine ⟨d,6,rfl,by decide,w5.cl,fun n H9 n0 n1 hD => ?_⟩
  have w6:=w5.drw hD
  have g2:=w6.hd
  clear w5 hD
  obtain ⟨b,hbm,hb'⟩:=at_ex ([sm,mz,sm + 1,tot,mx,gr] : List Int) n (by omega) (by show n < 6; omega)
  have hb2 : atI [T.int sm,T.int mz,T.int (sm + 1),T.int tot,T.int mx,T.int gr] n = some (T.int b):=by
   have:=at_map T.int ([sm,mz,sm + 1,tot,mx,gr] : List Int) n
   rw [hb'] at this
   exact this
  walk_at "rd"
  exact fin_drw w6.cl w6.kp fun H'' hD => k'.out _ H'' hD
abbrev N_texts_of : List Str:=["dealing","texts","tasks"]
theorem sc_texts_of : FnScope N_texts_of ["dealing"] (defScope (top 7)):=sc_mk
theorem ok_texts_of {f : Addr} {fd : FuncData} (g : G3 K mg "texts_of" (top 7) ["dealing"] f fd) (B : Bl mg) : Cal P w K mg base 1 "texts_of" (top 7) ["dealing"] spTx:=by
 refine ⟨f,fd,g,?_⟩
 refine fn3 g.fn sc_texts_of (fun ts H Q h => ?_) (fun cdv A outer s H E ts H3 Q hr h => ?_)
 ·
  obtain ⟨D,rfl,_⟩:=h; rfl
 ·
  have hu30:=Room.u30 hr
  have hu31:=Room.u31 hr
  have hu1:=Room.u1 hr
  obtain ⟨D,rfl,hl,k⟩:=h
  refine ⟨_,(ss3_cons (s3_set (i:=1) sc_texts_of.nd (e3_lst a3_nil))
    (ss3_cons (s3_for PassesOwn.never rfl (i3_tup (v3 0)) (g3_name (i:=2) sc_texts_of.nd) (ss3_one (s3_expr (e3_bm PySem.F.plainAttrs_list PySem.F.slot_list_extend PySem.F.type_list_extend m3_extendT (v3 1) (a3_cons (v3 2) a3_nil)))))
    (ss3_one (s3_ret (v3 1))))),?_⟩
  rw [show start3 N_texts_of [T.tup (D.map sT)] = [some (T.tup (D.map sT)),none,none] from rfl]
  have hsz : sizeLine = 16777216:=rfl
  have k':=Box.mk k
  clear k
  refine seq_cut fun R0 hR0 => ?_
  walk_at "rd"
  refine ⟨by decide,fun p hp => ?_⟩
  walk_at "nx"
  refine seq_cut fun R1 hR1 => ?_
  walk_at "rd"
  refine iter_pre sT D (fun A σ H => ∃ v : Option T,σ = [some (.tup (D.map sT)),some (.ref p),v] /\ H = up3 H3 p (.lst (A.flatten.map T.str))) ⟨_,rfl,rfl⟩ ?_ ?_
  ·
   rintro σ H ⟨v,rfl,rfl⟩
   refine ⟨trivial,?_⟩
   walk_at "nx"
   walk_at "rd"
   exact Fin3.of Sub3.refl (k'.out p hp)
  ·
   rintro A s B σ H N e ⟨v,rfl,rfl⟩ hN
   have hs : A.flatten.length + s.length <= 1000:=by
    have:=congrArg (fun x => x.flatten.length) e
    simp only [flat_pre,List.length_append] at this
    omega
   have ef : (A ++ [s]).flatten.map T.str = A.flatten.map T.str ++ s.map T.str:=by simp
   have hN':=Box.mk hN
   clear hN e k' hR1
   refine ⟨trivial,?_⟩
   simp only [sT]
   walk_at "rd"
   refine ⟨by first | trivial | exact ⟨trivial,trivial⟩,?_⟩
   exact ⟨by omega,hN'.out _ _ ⟨_,rfl,by rw [ef]⟩⟩
abbrev N_stands_of : List Str:=["dealing","stands","stand","tasks","task"]
theorem sc_stands_of : FnScope N_stands_of ["dealing"] (defScope (top 8)):=sc_mk
theorem ok_stands_of {f : Addr} {fd : FuncData} (g : G3 K mg "stands_of" (top 8) ["dealing"] f fd) (B : Bl mg) : Cal P w K mg base 1 "stands_of" (top 8) ["dealing"] spSt:=by
 refine ⟨f,fd,g,?_⟩
 refine fn3 g.fn sc_stands_of (fun ts H Q h => ?_) (fun cdv A outer s H E ts H3 Q hr h => ?_)
 ·
  obtain ⟨D,rfl,_⟩:=h; rfl
 ·
  have hu30:=Room.u30 hr
  have hu31:=Room.u31 hr
  have hu1:=Room.u1 hr
  obtain ⟨D,rfl,hl,k⟩:=h
  refine ⟨_,(ss3_cons (s3_set (i:=1) sc_stands_of.nd e3_dnew)
    (ss3_cons (s3_for PassesOwn.never rfl (i3_enumT rfl B.enumerate_ (v3 0)) (g3_tup (n:=2) rfl (gs3_cons (g3_name (i:=2) sc_stands_of.nd) (gs3_cons (g3_name (i:=3) sc_stands_of.nd) gs3_nil))) (ss3_one (s3_for PassesOwn.never rfl (i3_tup (v3 3)) (g3_name (i:=4) sc_stands_of.nd) (ss3_one (s3_dput hu1 (v3 1) (v3 4) (v3 2))))))
    (ss3_one (s3_ret (v3 1))))),?_⟩
  rw [show start3 N_stands_of [T.tup (D.map sT)] = [some (T.tup (D.map sT)),none,none,none,none] from rfl]
  have hsz : sizeLine = 16777216:=rfl
  have k':=Box.mk k
  clear k
  refine seq_cut fun R0 hR0 => ?_
  walk_at "rd"
  intro p hp
  walk_at "nx"
  refine seq_cut fun R1 hR1 => ?_
  walk_at "rd"
  refine iter_enum sT D (fun A σ H => ∃ (v2 v3 v4 : Option T),σ = [some (.tup (D.map sT)),some (.ref p),v2,v3,v4] /\ H = up3 H3 p (.dct (dN (kD A) (fD A)))) ⟨_,_,_,rfl,rfl⟩ ?_ ?_
  ·
   rintro σ H ⟨v2,v3,v4,rfl,rfl⟩
   refine ⟨trivial,?_⟩
   walk_at "nx"
   walk_at "rd"
   exact Fin3.of Sub3.refl (k'.out p hp)
  ·
   rintro A s B σ H N e ⟨v2,v3,v4,rfl,rfl⟩ hN
   have hs : A.flatten.length + s.length <= 1000:=by
    have:=congrArg (fun x => x.flatten.length) e
    simp only [flat_pre,List.length_append] at this
    omega
   have ek:=kD_snoc A s
   have ef:=fD_snoc A s
   have kl:=kD_len A
   have hN':=Box.mk hN
   have ek':=Box.mk ek
   have ef':=Box.mk ef
   clear hN e k' hR1 ek ef
   refine ⟨trivial,?_⟩
   simp only [sT]
   walk_at "rd"
   try refine ⟨trivial,?_⟩
   refine iter_pre T.str s (fun C σ H => ∃ (v4 : Option T),σ = [some (.tup (D.map sT)),some (.ref p),some (.int (A.length : Int)),some (.tup (s.map T.str)),v4] /\ H = up3 H3 p (.dct (dN (kst (kD A) C) (fst' A.length (fD A) C)))) ⟨_,rfl,rfl⟩ ?_ ?_
   ·
    rintro σ H ⟨v4,rfl,rfl⟩
    exact ⟨trivial,hN'.out _ _ ⟨_,_,_,rfl,by rw [ek'.out,ef'.out]⟩⟩
   ·
    rintro C n E' σ H N2 e2 ⟨v4,rfl,rfl⟩ hN2
    have hc : C.length < s.length:=by
     have:=congrArg List.length e2
     simp only [List.length_append,List.length_cons] at this
     omega
    have p1:=put_kst (kst (kD A) C) (fst' A.length (fD A) C) n A.length
    rw [<- kst_snoc,<- fst_snoc] at p1
    have l1:=dN_len (kst (kD A) C) (fst' A.length (fD A) C)
    have l2:=kst_len C (kD A)
    have hN2':=Box.mk hN2
    clear hN2 hN' e2 ek' ef'
    refine ⟨trivial,?_⟩
    walk_at "rd"
    exact ⟨by omega,hN2'.out _ _ ⟨_,rfl,rfl⟩⟩
theorem sc_names_of : FnScope ["tasks"] ["tasks"] (defScope (top 3)):=sc_mk
theorem ok_names_of {f : Addr} {fd : FuncData} (g : G3 K mg "names_of" (top 3) ["tasks"] f fd) (B : Bl mg) : Cal P w K mg base 1 "names_of" (top 3) ["tasks"] spNO:=by
 refine ⟨f,fd,g,?_⟩
 refine fn3 g.fn sc_names_of (fun ts H Q h => ?_) (fun cdv A outer s H E ts H3 Q hr h => ?_)
 ·
  obtain ⟨tk,rfl,_⟩:=h; rfl
 ·
  have hu30:=Room.u30 hr
  have hu31:=Room.u31 hr
  have hu1:=Room.u1 hr
  obtain ⟨tk,rfl,t8,k⟩:=h
  refine ⟨_,(ss3_one (s3_ret (e3_comp rfl (compSc (n0:=(defScope (top 3)).names) (N:=["tasks"]) (N':=["task"]) (nt:=1) (cap:=[]) rfl rfl (by decide +kernel)) (i3_tup (v3 0)) (fun cl pins s H C0 fp => ⟨(g3_name (i:=0) (show List.Nodup [("task" : Str)] by decide +kernel)),if3_nil,(e3_ix ix3 (v3 0) c3_int)⟩)))),?_⟩
  rw [show start3 ["tasks"] [T.tup (tk.map tkT)] = [some (T.tup (tk.map tkT))] from rfl]
  have hsz : sizeLine = 16777216:=rfl
  have k':=Box.mk k
  clear k
  walk_at "rd"
  walk_at "cp"
  refine cIter_pure tkT (fun t => T.str t.1) tk [] trivial (by omega) (fun t ht Q' hq => ?_) (fun pc hpc => ?_)
  ·
   clear k'
   simp only [tkT]
   walk_at "rd"
   try exact hq
  ·
   have:=k'.out pc hpc
   rw [List.map_map] at this
   exact Fin3.of Sub3.refl this
abbrev N_may_be_done : List Str:=["kinds","kind"]
theorem sc_may_be_done : FnScope N_may_be_done N_may_be_done (defScope (top 1)):=sc_mk
theorem ok_may_be_done {f : Addr} {fd : FuncData} (g : G3 K mg "may_be_done" (top 1) N_may_be_done f fd) (B : Bl mg) : Cal P w K mg base 1 "may_be_done" (top 1) N_may_be_done spMy:=by
 refine ⟨f,fd,g,?_⟩
 refine fn3 g.fn sc_may_be_done (fun ts H Q h => ?_) (fun cdv A outer s H E ts H3 Q hr h => ?_)
 ·
  obtain ⟨ks,k,rfl,_⟩:=h; rfl
 ·
  have hu30:=Room.u30 hr
  have hu31:=Room.u31 hr
  have hu1:=Room.u1 hr
  obtain ⟨ks,kd,rfl,k⟩:=h
  refine ⟨_,(ss3_one (s3_ret (e3_or (e3_cmp (o3_eq hu30) (e3_callB c3_len rfl B.len_ bt_len (a3_cons (v3 0) a3_nil)) c3_int) (e3_one (e3_cmp (o3_in hu31) (v3 1) (v3 0) rfl))))),?_⟩
  rw [show start3 N_may_be_done [sT ks,T.str kd] = [some (T.tup (ks.map T.str)),some (T.str kd)] from rfl]
  have i1 : pl 20 (T.str kd) = true:=rfl
  have i2:=pl_strs ks
  have e1 : memB false (T.str kd) (ks.map T.str) = decide (kd ∈ ks):=by
   unfold memB
   have : (T.str kd ∈ ks.map T.str) ↔ kd ∈ ks:=mem_map_inj str_inj
   simp only [this]
   simp
  walk_at "rd"
  unfold okK at k
  cases ks with
  | nil =>
   simp only [decide_true,Bool.true_or,List.length_nil,if_true] at k ⊢
   exact Fin3.of Sub3.refl k
  | cons y r =>
   have : ¬ (((r.length + 1 : Nat)) : Int) = 0:=by omega
   simp only [List.length_cons,this,decide_false,Bool.false_eq_true,if_false] at k ⊢
   exact ⟨trivial,trivial,Fin3.of Sub3.refl (by simpa using k)⟩
abbrev N_number_fault : List Str:=["works","dealing"]
theorem sc_number_fault : FnScope N_number_fault N_number_fault (defScope (top 9)):=sc_mk
theorem ok_number_fault {f : Addr} {fd : FuncData} (g : G3 K mg "number_fault" (top 9) N_number_fault f fd) (B : Bl mg) : Cal P w K mg base 1 "number_fault" (top 9) N_number_fault spNf:=by
 refine ⟨f,fd,g,?_⟩
 refine fn3 g.fn sc_number_fault (fun ts H Q h => ?_) (fun cdv A outer s H E ts H3 Q hr h => ?_)
 ·
  obtain ⟨W,D,rfl,_⟩:=h; rfl
 ·
  have hu30:=Room.u30 hr
  have hu31:=Room.u31 hr
  have hu1:=Room.u1 hr
  obtain ⟨W,D,rfl,k⟩:=h
  refine ⟨_,(ss3_cons (s3_if (t3_cmp o3_gt (e3_callB c3_len rfl B.len_ bt_len (a3_cons (v3 1) a3_nil)) (e3_callB c3_len rfl B.len_ bt_len (a3_cons (e3_ix ix3 (v3 0) c3_int) a3_nil))) (ss3_one (s3_ret (e3_tup (a3_cons c3_str (a3_cons (e3_callB c3_len rfl B.len_ bt_len (a3_cons (v3 1) a3_nil)) a3_nil))))) ss3_nil)
    (ss3_one (s3_ret c3_non))),?_⟩
  rw [show start3 N_number_fault [W.enc,T.tup (D.map sT)] = [some (W.enc),some (T.tup (D.map sT))] from rfl]
  have hsz : sizeLine = 16777216:=rfl
  have k':=Box.mk k
  clear k
  walk_at "rd"
  unfold numF at k'
  by_cases c : D.length > W.row.length
  ·
   rw [if_pos (by simpa using c)]
   walk_at "rd"
   refine ⟨by decide,Fin3.of Sub3.refl ?_⟩
   have:=k'.out
   rw [if_pos c] at this
   exact this
  ·
   rw [if_neg (by simpa using c)]
   have:=k'.out
   rw [if_neg c] at this
   exact Fin3.of Sub3.refl this
abbrev N_strange_fault : List Str:=["works","dealing","names","text"]
theorem sc_strange_fault : FnScope N_strange_fault ["works","dealing"] (defScope (top 10)):=sc_mk
theorem ok_strange_fault {f : Addr} {fd : FuncData} (g : G3 K mg "strange_fault" (top 10) ["works","dealing"] f fd) (B : Bl mg) (F_names_of : Cal P w K mg base 1 "names_of" (top 3) ["tasks"] spNO) (F_texts_of : Cal P w K mg base 1 "texts_of" (top 7) ["dealing"] spTx) : Cal P w K mg base 2 "strange_fault" (top 10) ["works","dealing"] spSf:=by
 refine ⟨f,fd,g,?_⟩
 refine fn3 g.fn sc_strange_fault (fun ts H Q h => ?_) (fun cdv A outer s H E ts H3 Q hr h => ?_)
 ·
  obtain ⟨W,D,rfl,_⟩:=h; rfl
 ·
  have hu30:=Room.u30 hr
  have hu31:=Room.u31 hr
  have hu1:=Room.u1 hr
  obtain ⟨W,D,rfl,hW,hl,k⟩:=h
  refine ⟨_,(ss3_cons (s3_set (i:=2) sc_strange_fault.nd (e3_cl F_names_of hr rfl (a3_cons (e3_ix ix3 (v3 0) c3_int) a3_nil)))
    (ss3_cons (s3_for PassesOwn.never rfl (i3_list (e3_cl F_texts_of hr rfl (a3_cons (v3 1) a3_nil))) (g3_name (i:=3) sc_strange_fault.nd) (ss3_one (s3_if (t3_cmp (o3_notin hu31) (v3 3) (v3 2) rfl) (ss3_one (s3_ret (e3_tup (a3_cons c3_str (a3_cons (v3 3) a3_nil))))) ss3_nil)))
    (ss3_one (s3_ret c3_non)))),?_⟩
  rw [show start3 N_strange_fault [W.enc,T.tup (D.map sT)] = [some (W.enc),some (T.tup (D.map sT)),none,none] from rfl]
  have hsz : sizeLine = 16777216:=rfl
  have k':=Box.mk k
  clear k
  have t8 : W.tasks.length <= 8:=hW.t8
  clear hW
  replace k' : Box (Q (oE (strF (W.tasks.map (·.1)) D.flatten)) H3):=k'
  generalize hns : W.tasks.map (·.1) = ns at k'
  refine seq_cut fun R0 hR0 => ?_
  walk_at "rd"
  refine ⟨W.tasks,rfl,t8,fun p hp => ?_⟩
  rw [hns]
  walk_at "nx"
  refine seq_cut fun R1 hR1 => ?_
  walk_at "rd"
  refine ⟨D,rfl,hl,fun q hq => ?_⟩
  have npq : p ≠ q:=ne3n up3_same hq
  generalize hH : up3 (up3 H3 p (.lst (ns.map T.str))) q (.lst (D.flatten.map T.str)) = H4
  have g1 : H4 p = some (.lst (ns.map T.str)):=by rw [<- hH,up3_ne npq,up3_same]
  have g2 : H4 q = some (.lst (D.flatten.map T.str)):=by rw [<- hH,up3_same]
  have sb : Sub3 H3 H4:=by rw [<- hH]; exact (Sub3.new hp).trans (Sub3.new hq)
  clear hH hq hp hl hns
  have hR1':=Box.mk hR1
  clear hR1
  walk_at "rd"
  refine iter_pre T.str D.flatten (fun A σ H => (∃ v : Option T,σ = [some (W.enc),some (.tup (D.map sT)),some (.ref p),v]) /\ H = H4 /\ Box (∀ a ∈ A,a ∈ ns)) ⟨⟨_,rfl⟩,rfl,⟨fun _ h => (nomatch h)⟩⟩ ?_ ?_
  ·
   rintro σ H ⟨⟨v,rfl⟩,rfl,ha⟩
   refine ⟨.inl g2,?_⟩
   obtain ⟨⟨hR1⟩⟩:=hR1'
   subst hR1
   walk_at "rd"
   have e : strF ns D.flatten = none:=by unfold strF; rw [find_no (fun a h => by rw [decide_eq_true (ha.out a h)]; rfl)]; rfl
   have:=k'.out
   rw [e] at this
   exact Fin3.of sb this
  ·
   rintro A x B σ H N e ⟨⟨v,rfl⟩,rfl,ha⟩ hN
   have pls:=pl_strs ns
   have hN':=Box.mk hN
   have e':=Box.mk e
   clear hN e hR1'
   refine ⟨.inl g2,?_⟩
   walk_at "rd"
   refine ⟨rfl,trivial,?_⟩
   rw [memS]
   by_cases c : x ∈ ns
   ·
    rw [if_neg (by simp [c])]
    exact hN'.out _ _ ⟨⟨_,rfl⟩,rfl,⟨fun a h => (List.mem_append.mp h).elim (ha.out a) fun z => by rw [List.mem_singleton.mp z]; exact c⟩⟩
   ·
    rw [if_pos (by simp [c])]
    refine ⟨by decide,?_⟩
    have e : strF ns D.flatten = some (.tup [.str "strange",.str x]):=by unfold strF; rw [e'.out,find_hit (fun a h => by rw [decide_eq_true (ha.out a h)]; rfl) (by simp [c])]; rfl
    have:=k'.out
    rw [e] at this
    exact Fin3.of sb this
abbrev N_twice_fault : List Str:=["dealing","ahead","task"]
theorem sc_twice_fault : FnScope N_twice_fault ["dealing"] (defScope (top 11)):=sc_mk
theorem ok_twice_fault {f : Addr} {fd : FuncData} (g : G3 K mg "twice_fault" (top 11) ["dealing"] f fd) (B : Bl mg) (F_texts_of : Cal P w K mg base 1 "texts_of" (top 7) ["dealing"] spTx) : Cal P w K mg base 2 "twice_fault" (top 11) ["dealing"] spTf:=by
 refine ⟨f,fd,g,?_⟩
 refine fn3 g.fn sc_twice_fault (fun ts H Q h => ?_) (fun cdv A outer s H E ts H3 Q hr h => ?_)
 ·
  obtain ⟨D,rfl,_⟩:=h; rfl
 ·
  have hu30:=Room.u30 hr
  have hu31:=Room.u31 hr
  have hu1:=Room.u1 hr
  obtain ⟨D,rfl,hl,k⟩:=h
  refine ⟨_,(ss3_cons (s3_set (i:=1) sc_twice_fault.nd e3_dnew)
    (ss3_cons (s3_for PassesOwn.never rfl (i3_list (e3_cl F_texts_of hr rfl (a3_cons (v3 0) a3_nil))) (g3_name (i:=2) sc_twice_fault.nd) (ss3_cons (s3_if (t3_din hu1 (v3 2) (v3 1)) (ss3_one (s3_ret (e3_tup (a3_cons c3_str (a3_cons (v3 2) a3_nil))))) ss3_nil)
     (ss3_one (s3_dput hu1 (v3 1) (v3 2) c3_bl))))
    (ss3_one (s3_ret c3_non)))),?_⟩
  rw [show start3 N_twice_fault [T.tup (D.map sT)] = [some (T.tup (D.map sT)),none,none] from rfl]
  have hsz : sizeLine = 16777216:=rfl
  have k':=Box.mk k
  clear k
  refine seq_cut fun R0 hR0 => ?_
  walk_at "rd"
  intro p hp
  walk_at "nx"
  refine seq_cut fun R1 hR1 => ?_
  walk_at "rd"
  refine ⟨D,rfl,hl,fun q hq => ?_⟩
  have npq : p ≠ q:=ne3n up3_same hq
  generalize hxs : D.flatten = xs at *
  generalize hH : up3 H3 p (.dct []) = H5 at *
  have hH':=Box.mk hH
  clear hH
  have g5 : H5 p = some (.dct (dB [])):=by rw [<- hH'.out]; exact up3_same
  have sb : Sub3 H3 H5:=by rw [<- hH'.out]; exact Sub3.new hp
  have hq5 : Box (H5 q = none):=⟨hq⟩
  have hR1':=Box.mk hR1
  have g2 : up3 H5 q (.lst (xs.map T.str)) q = some (.lst (xs.map T.str)):=up3_same
  clear hR1 hq
  walk_at "rd"
  refine iter_pre T.str xs (fun A σ H => (∃ v : Option T,σ = [some (.tup (D.map sT)),some (.ref p),v]) /\ H = up3 (up3 H5 q (.lst (xs.map T.str))) p (.dct (dB A)) /\ Box A.Nodup) ⟨⟨_,rfl⟩,?_,⟨List.nodup_nil⟩⟩ ?_ ?_
  ·
   funext b
   by_cases hb : b = p
   ·
    subst hb; rw [up3_same,up3_ne npq]; exact g5
   ·
    rw [up3_ne hb]
  ·
   rintro σ H ⟨⟨v,rfl⟩,rfl,ha⟩
   refine ⟨.inl (by rw [up3_ne (Ne.symm npq),up3_same]),?_⟩
   obtain ⟨⟨hR1⟩⟩:=hR1'
   subst hR1
   walk_at "rd"
   have e : twF xs = none:=by unfold twF; rw [twG_no (by simpa using ha.out)]; rfl
   have:=k'.out
   rw [e] at this
   refine Fin3.of (fun b o hb => ?_) this
   rw [up3_ne (ne3n hb hp),up3_ne (ne3n (sb b o hb) hq5.out)]
   exact sb b o hb
  ·
   rintro A x B σ H N e ⟨⟨v,rfl⟩,rfl,ha⟩ hN
   have hN':=Box.mk hN
   have e':=Box.mk e
   have hlA : A.length < 1000:=by
    have:=congrArg List.length e
    simp only [List.length_append,List.length_cons] at this
    omega
   have d1:=dB_is x A
   have d2:=dB_len A
   clear hN e hR1' hxs g5 hH'
   refine ⟨.inl (by rw [up3_ne (Ne.symm npq),up3_same]),?_⟩
   walk_at "rd"
   by_cases c : x ∈ A
   ·
    rw [if_pos (by simp [c])]
    refine ⟨by decide,?_⟩
    have e : twF xs = some (.tup [.str "twice",.str x]):=by unfold twF; rw [e'.out,twG_hit (sn:=[]) (by simpa using ha.out) (by simpa using c)]; rfl
    have:=k'.out
    rw [e] at this
    refine Fin3.of (fun b o hb => ?_) this
    rw [up3_ne (ne3n hb hp),up3_ne (ne3n (sb b o hb) hq5.out)]
    exact sb b o hb
   ·
    rw [if_neg (by simp [c])]
    refine ⟨by omega,hN'.out _ _ ⟨⟨_,rfl⟩,?_,⟨nd_snoc ha.out c⟩⟩⟩
    rw [dB_new c]
abbrev N_lost_fault : List Str:=["works","dealing","stands","name"]
theorem sc_lost_fault : FnScope N_lost_fault ["works","dealing"] (defScope (top 12)):=sc_mk
theorem ok_lost_fault {f : Addr} {fd : FuncData} (g : G3 K mg "lost_fault" (top 12) ["works","dealing"] f fd) (B : Bl mg) (F_stands_of : Cal P w K mg base 1 "stands_of" (top 8) ["dealing"] spSt) (F_names_of : Cal P w K mg base 1 "names_of" (top 3) ["tasks"] spNO) : Cal P w K mg base 2 "lost_fault" (top 12) ["works","dealing"] spLf:=by
 refine ⟨f,fd,g,?_⟩
 refine fn3 g.fn sc_lost_fault (fun ts H Q h => ?_) (fun cdv A outer s H E ts H3 Q hr h => ?_)
 ·
  obtain ⟨W,D,rfl,_⟩:=h; rfl
 ·
  have hu30:=Room.u30 hr
  have hu31:=Room.u31 hr
  have hu1:=Room.u1 hr
  obtain ⟨W,D,rfl,hW,hl,k⟩:=h
  refine ⟨_,(ss3_cons (s3_set (i:=2) sc_lost_fault.nd (e3_cl F_stands_of hr rfl (a3_cons (v3 1) a3_nil)))
    (ss3_cons (s3_for PassesOwn.never rfl (i3_list (e3_cl F_names_of hr rfl (a3_cons (e3_ix ix3 (v3 0) c3_int) a3_nil))) (g3_name (i:=3) sc_lost_fault.nd) (ss3_one (s3_if (t3_dnotin hu1 (v3 3) (v3 2)) (ss3_one (s3_ret (e3_tup (a3_cons c3_str (a3_cons (v3 3) a3_nil))))) ss3_nil)))
    (ss3_one (s3_ret c3_non)))),?_⟩
  rw [show start3 N_lost_fault [W.enc,T.tup (D.map sT)] = [some (W.enc),some (T.tup (D.map sT)),none,none] from rfl]
  have hsz : sizeLine = 16777216:=rfl
  have k':=Box.mk k
  clear k
  have t8 : W.tasks.length <= 8:=hW.t8
  clear hW
  replace k' : Box (Q (oE (losF (W.tasks.map (·.1)) D.flatten)) H3):=k'
  generalize hns : W.tasks.map (·.1) = ns at k'
  refine seq_cut fun R0 hR0 => ?_
  walk_at "rd"
  refine ⟨D,rfl,hl,fun p hp => ?_⟩
  walk_at "nx"
  refine seq_cut fun R1 hR1 => ?_
  walk_at "rd"
  refine ⟨W.tasks,rfl,t8,fun q hq => ?_⟩
  rw [hns]
  have npq : p ≠ q:=ne3n up3_same hq
  generalize hH : up3 (up3 H3 p (.dct (dN (kD D) (fD D)))) q (.lst (ns.map T.str)) = H4
  have g1 : H4 p = some (.dct (dN (kD D) (fD D))):=by rw [<- hH,up3_ne npq,up3_same]
  have g2 : H4 q = some (.lst (ns.map T.str)):=by rw [<- hH,up3_same]
  have sb : Sub3 H3 H4:=by rw [<- hH]; exact (Sub3.new hp).trans (Sub3.new hq)
  clear hH hq hp hl hns
  have hR1':=Box.mk hR1
  clear hR1
  walk_at "rd"
  refine iter_pre T.str ns (fun A σ H => (∃ v : Option T,σ = [some (W.enc),some (.tup (D.map sT)),some (.ref p),v]) /\ H = H4 /\ Box (∀ a ∈ A,a ∈ D.flatten)) ⟨⟨_,rfl⟩,rfl,⟨fun _ h => (nomatch h)⟩⟩ ?_ ?_
  ·
   rintro σ H ⟨⟨v,rfl⟩,rfl,ha⟩
   refine ⟨.inl g2,?_⟩
   obtain ⟨⟨hR1⟩⟩:=hR1'
   subst hR1
   walk_at "rd"
   have e : losF ns D.flatten = none:=by unfold losF; rw [find_no (fun a h => by rw [decide_eq_true (ha.out a h)]; rfl)]; rfl
   have:=k'.out
   rw [e] at this
   exact Fin3.of sb this
  ·
   rintro A x B σ H N e ⟨⟨v,rfl⟩,rfl,ha⟩ hN
   have d1:=dN_is (kD D) (fD D) x
   have d2 : (x ∈ kD D) = (x ∈ D.flatten):=propext mem_kD
   simp only [d2] at d1
   have hN':=Box.mk hN
   have e':=Box.mk e
   clear hN e hR1' d2
   refine ⟨.inl g2,?_⟩
   walk_at "rd"
   by_cases c : x ∈ D.flatten
   ·
    rw [if_neg (by simp [c])]
    exact hN'.out _ _ ⟨⟨_,rfl⟩,rfl,⟨fun a h => (List.mem_append.mp h).elim (ha.out a) fun z => by rw [List.mem_singleton.mp z]; exact c⟩⟩
   ·
    rw [if_pos (by simp [c])]
    refine ⟨by decide,?_⟩
    have e : losF ns D.flatten = some (.tup [.str "lost",.str x]):=by unfold losF; rw [e'.out,find_hit (fun a h => by rw [decide_eq_true (ha.out a h)]; rfl) (by simp [c])]; rfl
    have:=k'.out
    rw [e] at this
    exact Fin3.of sb this
abbrev N_order_fault : List Str:=["works","dealing","stands","one","other"]
theorem sc_order_fault : FnScope N_order_fault ["works","dealing"] (defScope (top 13)):=sc_mk
theorem ok_order_fault {f : Addr} {fd : FuncData} (g : G3 K mg "order_fault" (top 13) ["works","dealing"] f fd) (B : Bl mg) (F_stands_of : Cal P w K mg base 1 "stands_of" (top 8) ["dealing"] spSt) : Cal P w K mg base 2 "order_fault" (top 13) ["works","dealing"] spOf:=by
 refine ⟨f,fd,g,?_⟩
 refine fn3 g.fn sc_order_fault (fun ts H Q h => ?_) (fun cdv A outer s H E ts H3 Q hr h => ?_)
 ·
  obtain ⟨W,D,rfl,_⟩:=h; rfl
 ·
  have hu30:=Room.u30 hr
  have hu31:=Room.u31 hr
  have hu1:=Room.u1 hr
  obtain ⟨W,D,rfl,hW,hl,hd,k⟩:=h
  refine ⟨_,(ss3_cons (s3_set (i:=2) sc_order_fault.nd (e3_cl F_stands_of hr rfl (a3_cons (v3 1) a3_nil)))
    (ss3_cons (s3_for PassesOwn.never rfl (i3_tup (e3_ix ix3 (v3 0) c3_int)) (g3_tup (n:=2) rfl (gs3_cons (g3_name (i:=3) sc_order_fault.nd) (gs3_cons (g3_name (i:=4) sc_order_fault.nd) gs3_nil))) (ss3_one (s3_if (t3_cmp o3_gt (e3_dget hu1 (v3 2) (v3 3)) (e3_dget hu1 (v3 2) (v3 4))) (ss3_one (s3_ret (e3_tup (a3_cons c3_str (a3_cons (v3 3) (a3_cons (v3 4) a3_nil)))))) ss3_nil)))
    (ss3_one (s3_ret c3_non)))),?_⟩
  rw [show start3 N_order_fault [W.enc,T.tup (D.map sT)] = [some (W.enc),some (T.tup (D.map sT)),none,none,none] from rfl]
  have hsz : sizeLine = 16777216:=rfl
  have k':=Box.mk k
  clear k
  have hnm : Box (∀ o ∈ W.orders,o.1 ∈ W.tasks.map (·.1) /\ o.2 ∈ W.tasks.map (·.1)):=⟨fun o ho => (hW.oo o ho).2⟩
  replace k' : Box (Q (oE (ordF (fD D) W.orders)) H3):=k'
  have hd2:=Box.mk (fun x => (mem_kD (x:=x) (D:=D)).mpr)
  have hall:=Box.mk hd.al
  clear hd hW
  refine seq_cut fun R0 hR0 => ?_
  walk_at "rd"
  refine ⟨D,rfl,hl,fun p hp => ?_⟩
  have g1 : up3 H3 p (.dct (dN (kD D) (fD D))) p = some (.dct (dN (kD D) (fD D))):=up3_same
  have sb : Sub3 H3 (up3 H3 p (.dct (dN (kD D) (fD D)))):=Sub3.new hp
  generalize up3 H3 p (.dct (dN (kD D) (fD D))) = H4 at *
  clear hp hl
  walk_at "nx"
  refine seq_cut fun R1 hR1 => ?_
  walk_at "rd"
  refine iter_pre orT W.orders (fun A σ H => (∃ v3 v4 : Option T,σ = [some (W.enc),some (.tup (D.map sT)),some (.ref p),v3,v4]) /\ H = H4 /\ Box (∀ a ∈ A,(fun o : Str × Str => decide (fD D o.2 < fD D o.1)) a = false)) ⟨⟨_,_,rfl⟩,rfl,⟨fun _ h => (nomatch h)⟩⟩ ?_ ?_
  ·
   rintro σ H ⟨⟨v3,v4,rfl⟩,rfl,ha⟩
   refine ⟨trivial,?_⟩
   walk_at "nx"
   walk_at "rd"
   have e : ordF (fD D) W.orders = none:=by unfold ordF; rw [find_no ha.out]; rfl
   have:=k'.out
   rw [e] at this
   exact Fin3.of sb this
  ·
   rintro A ⟨x,y⟩ B σ H N e ⟨⟨v3,v4,rfl⟩,rfl,ha⟩ hN
   have hm:=hnm.out (x,y) (by rw [e]; simp)
   have l1:=dN_look (f:=fD D) (hd2.out _ (hall.out _ hm.1))
   have l2:=dN_look (f:=fD D) (hd2.out _ (hall.out _ hm.2))
   dsimp only at l1 l2
   have hN':=Box.mk hN
   have e':=Box.mk e
   have nx : (fun o : Str × Str => decide (fD D o.2 < fD D o.1)) (x,y) = false -> N [some (W.enc),some (.tup (D.map sT)),some (.ref p),some (.str x),some (.str y)] H:=fun c => hN'.out _ _ ⟨⟨_,_,rfl⟩,rfl,⟨fun a h => (List.mem_append.mp h).elim (ha.out a) fun z => by rw [List.mem_singleton.mp z]; exact c⟩⟩
   have rt : (fun o : Str × Str => decide (fD D o.2 < fD D o.1)) (x,y) = true -> Fin3 Q (.tup [.str "order",.str x,.str y]) H:=fun c => by
    have e : ordF (fD D) W.orders = some (.tup [.str "order",.str x,.str y]):=by unfold ordF; rw [e'.out,find_hit ha.out c]; rfl
    have:=k'.out
    rw [e] at this
    exact Fin3.of sb this
   have nx':=Box.mk nx
   have rt':=Box.mk rt
   clear hN e hR1 hm nx rt hN' e' ha k'
   refine ⟨trivial,?_⟩
   simp only [orT]
   walk_at "rd"
   refine ⟨trivial,?_⟩
   by_cases c : fD D y < fD D x
   ·
    rw [if_pos (by rw [decide_eq_true_iff]; omega)]
    exact ⟨by decide,rt'.out (decide_eq_true c)⟩
   ·
    rw [if_neg (by rw [decide_eq_true_iff]; omega)]
    exact nx'.out (decide_eq_false c)
abbrev N_pair_fault : List Str:=["works","dealing","stands","word","one","other"]
theorem sc_pair_fault : FnScope N_pair_fault ["works","dealing"] (defScope (top 14)):=sc_mk
theorem ok_pair_fault {f : Addr} {fd : FuncData} (g : G3 K mg "pair_fault" (top 14) ["works","dealing"] f fd) (B : Bl mg) (F_stands_of : Cal P w K mg base 1 "stands_of" (top 8) ["dealing"] spSt) : Cal P w K mg base 2 "pair_fault" (top 14) ["works","dealing"] spPf:=by
 refine ⟨f,fd,g,?_⟩
 refine fn3 g.fn sc_pair_fault (fun ts H Q h => ?_) (fun cdv A outer s H E ts H3 Q hr h => ?_)
 ·
  obtain ⟨W,D,rfl,_⟩:=h; rfl
 ·
  have hu30:=Room.u30 hr
  have hu31:=Room.u31 hr
  have hu1:=Room.u1 hr
  obtain ⟨W,D,rfl,hW,hl,hd,k⟩:=h
  refine ⟨_,(ss3_cons (s3_set (i:=2) sc_pair_fault.nd (e3_cl F_stands_of hr rfl (a3_cons (v3 1) a3_nil)))
    (ss3_cons (s3_for PassesOwn.never rfl (i3_tup (e3_ix ix3 (v3 0) c3_int)) (g3_tup (n:=3) rfl (gs3_cons (g3_name (i:=3) sc_pair_fault.nd) (gs3_cons (g3_name (i:=4) sc_pair_fault.nd) (gs3_cons (g3_name (i:=5) sc_pair_fault.nd) gs3_nil)))) (ss3_one (s3_if (t3_cmp (o3_ne hu30) (e3_cmp (o3_eq hu30) (e3_dget hu1 (v3 2) (v3 4)) (e3_dget hu1 (v3 2) (v3 5))) (e3_cmp (o3_eq hu30) (v3 3) c3_str)) (ss3_one (s3_ret (e3_tup (a3_cons (v3 3) (a3_cons (v3 4) (a3_cons (v3 5) a3_nil)))))) ss3_nil)))
    (ss3_one (s3_ret c3_non)))),?_⟩
  rw [show start3 N_pair_fault [W.enc,T.tup (D.map sT)] = [some (W.enc),some (T.tup (D.map sT)),none,none,none,none] from rfl]
  have hsz : sizeLine = 16777216:=rfl
  have k':=Box.mk k
  clear k
  have hnm : Box (∀ o ∈ W.pairs,o.2.1 ∈ W.tasks.map (·.1) /\ o.2.2 ∈ W.tasks.map (·.1)):=⟨fun o ho => (hW.pp o ho).2.2⟩
  replace k' : Box (Q (oE (paiF (fD D) W.pairs)) H3):=k'
  have hd2:=Box.mk (fun x => (mem_kD (x:=x) (D:=D)).mpr)
  have hall:=Box.mk hd.al
  clear hd hW
  refine seq_cut fun R0 hR0 => ?_
  walk_at "rd"
  refine ⟨D,rfl,hl,fun p hp => ?_⟩
  have g1 : up3 H3 p (.dct (dN (kD D) (fD D))) p = some (.dct (dN (kD D) (fD D))):=up3_same
  have sb : Sub3 H3 (up3 H3 p (.dct (dN (kD D) (fD D)))):=Sub3.new hp
  generalize up3 H3 p (.dct (dN (kD D) (fD D))) = H4 at *
  clear hp hl
  walk_at "nx"
  refine seq_cut fun R1 hR1 => ?_
  walk_at "rd"
  refine iter_pre prT W.pairs (fun A σ H => (∃ v3 v4 v5 : Option T,σ = [some (W.enc),some (.tup (D.map sT)),some (.ref p),v3,v4,v5]) /\ H = H4 /\ Box (∀ a ∈ A,(fun p : Str × Str × Str => decide (fD D p.2.1 = fD D p.2.2) != decide (p.1 = ("with" : Str))) a = false)) ⟨⟨_,_,_,rfl⟩,rfl,⟨fun _ h => (nomatch h)⟩⟩ ?_ ?_
  ·
   rintro σ H ⟨⟨v3,v4,v5,rfl⟩,rfl,ha⟩
   refine ⟨trivial,?_⟩
   walk_at "nx"
   walk_at "rd"
   have e : paiF (fD D) W.pairs = none:=by unfold paiF; rw [find_no ha.out]; rfl
   have:=k'.out
   rw [e] at this
   exact Fin3.of sb this
  ·
   rintro A ⟨z,x,y⟩ B σ H N e ⟨⟨v3,v4,v5,rfl⟩,rfl,ha⟩ hN
   have hm:=hnm.out (z,x,y) (by rw [e]; simp)
   have l1:=dN_look (f:=fD D) (hd2.out _ (hall.out _ hm.1))
   have l2:=dN_look (f:=fD D) (hd2.out _ (hall.out _ hm.2))
   dsimp only at l1 l2
   have hN':=Box.mk hN
   have e':=Box.mk e
   have nx : (fun p : Str × Str × Str => decide (fD D p.2.1 = fD D p.2.2) != decide (p.1 = ("with" : Str))) (z,x,y) = false -> N [some (W.enc),some (.tup (D.map sT)),some (.ref p),some (.str z),some (.str x),some (.str y)] H:=fun c => hN'.out _ _ ⟨⟨_,_,_,rfl⟩,rfl,⟨fun a h => (List.mem_append.mp h).elim (ha.out a) fun z => by rw [List.mem_singleton.mp z]; exact c⟩⟩
   have rt : (fun p : Str × Str × Str => decide (fD D p.2.1 = fD D p.2.2) != decide (p.1 = ("with" : Str))) (z,x,y) = true -> Fin3 Q (.tup [.str z,.str x,.str y]) H:=fun c => by
    have e : paiF (fD D) W.pairs = some (.tup [.str z,.str x,.str y]):=by unfold paiF; rw [e'.out,find_hit ha.out c]; rfl
    have:=k'.out
    rw [e] at this
    exact Fin3.of sb this
   have nx':=Box.mk nx
   have rt':=Box.mk rt
   clear hN e hR1 hm nx rt hN' e' ha k'
   refine ⟨trivial,?_⟩
   simp only [prT]
   walk_at "rd"
   refine ⟨trivial,?_⟩
   have ed : decide (((fD D x : Nat) : Int) = ((fD D y : Nat) : Int)) = decide (fD D x = fD D y):=by rw [decide_eq_decide]; omega
   rw [ed]
   have nx2:=nx'.out
   have rt2:=rt'.out
   clear nx' rt'
   dsimp only at nx2 rt2
   generalize decide (fD D x = fD D y) = b1 at *
   generalize decide (z = ("with" : Str)) = b2 at *
   cases b1 <;> cases b2
   ·
    rw [if_neg (by decide)]
    exact nx2 rfl
   ·
    rw [if_pos (by decide)]
    exact ⟨by decide,rt2 rfl⟩
   ·
    rw [if_pos (by decide)]
    exact ⟨by decide,rt2 rfl⟩
   ·
    rw [if_neg (by decide)]
    exact nx2 rfl
end
end M
namespace M
open PySem PySem.Spec PyProof.Rows L2 L3
local macro_rules | `(tactic| walk_at "cp") => `(tactic| dsimp only [cap3,List.replicate,List.map_cons,List.map_nil,List.cons_append,List.nil_append,List.getElem?_cons_zero,List.getElem?_cons_succ,Option.getD_some])
local macro_rules | `(tactic| walk_at "nx") => `(tactic| (obtain ⟨e⟩:=‹Shut (_ = _)›; subst e; try dsimp only))
local macro_rules | `(tactic| walk_at "rd") => do
 let ls <- ((nm0 ++ " q_is isN_non isN_int isN_str isN_tup isN_bl q_sumT q_revT q_rvT").splitOn " ").toArray.mapM fun n => let i:=Lean.mkIdent n.toName; `(Lean.Parser.Tactic.simpLemma| $i:ident)
 `(tactic| ((try dsimp only [$[$ls:simpLemma],*]); try simp only [*,$[$ls:simpLemma],*]))
section
variable {P : Program} {w : World} {K : PySem.W.Frag} {mg : Str -> Option Value} {base : Heap}
abbrev N_load_of : List Str:=["works","tasks"]
theorem sc_load_of : FnScope N_load_of N_load_of (defScope (top 5)):=sc_mk
theorem ok_load_of {f : Addr} {fd : FuncData} (g : G3 K mg "load_of" (top 5) N_load_of f fd) (B : Bl mg) : Cal P w K mg base 1 "load_of" (top 5) N_load_of spLo:=by
 refine ⟨f,fd,g,?_⟩
 refine fn3 g.fn sc_load_of (fun ts H Q h => ?_) (fun cdv A outer s H E ts H3 Q hr h => ?_)
 ·
  obtain ⟨W,ns,rfl,_⟩:=h; rfl
 ·
  have hu30:=Room.u30 hr
  have hu31:=Room.u31 hr
  have hu1:=Room.u1 hr
  obtain ⟨W,ns,rfl,t8,k⟩:=h
  refine ⟨_,(ss3_one (s3_ret (e3_callB (c3_sum rfl) rfl B.sum_ bt_sum (a3_cons (e3_comp rfl (compSc (n0:=(defScope (top 5)).names) (N:=N_load_of) (N':=["name","length","kinds","tasks"]) (nt:=3) (cap:=[1]) rfl rfl (by decide +kernel)) (i3_tup (e3_ix ix3 (v3 0) c3_int)) (fun cl pins s H C0 fp => ⟨(g3_tup (n:=3) rfl (gs3_cons (g3_name (i:=0) (show List.Nodup [("name" : Str),("length" : Str),("kinds" : Str),("tasks" : Str)] by decide +kernel)) (gs3_cons (g3_name (i:=1) (show List.Nodup [("name" : Str),("length" : Str),("kinds" : Str),("tasks" : Str)] by decide +kernel)) (gs3_cons (g3_name (i:=2) (show List.Nodup [("name" : Str),("length" : Str),("kinds" : Str),("tasks" : Str)] by decide +kernel)) gs3_nil)))),(if3_one (t3_cmp (o3_in hu31) (v3 0) (v3 3) rfl)),(v3 1)⟩)) a3_nil)))),?_⟩
  rw [show start3 N_load_of [W.enc,T.tup (ns.map T.str)] = [some (W.enc),some (T.tup (ns.map T.str))] from rfl]
  have hsz : sizeLine = 16777216:=rfl
  have k' : Q (.int (ld W.tasks ns)) H3:=k
  clear k
  replace t8 : W.tasks.length <= 8:=t8
  walk_at "rd"
  walk_at "cp"
  refine cIter_f3 (fun t : Str × Int × List Str => .str t.1) (fun t => .int t.2.1) (fun t => .tup (t.2.2.map T.str)) (fun t => .int t.2.1) (fun t => memB false (.str t.1) (ns.map T.str)) W.tasks [some (.tup (ns.map T.str))] trivial (by omega) (fun t ht Q' hq => ?_) (fun t ht _ Q' hq => hq) ?_
  ·
   clear k'
   walk_at "rd"
   exact ⟨rfl,pl_strs ns,by first | trivial | exact hq⟩
  ·
   intro p hp
   have e : ints3 ((W.tasks.filter (fun t => memB false (.str t.1) (ns.map T.str))).map (fun t => T.int t.2.1)) = some ((W.tasks.filter (fun t => memB false (.str t.1) (ns.map T.str))).map (·.2.1)):=by
    rw [<- ints3_map,List.map_map]; rfl
   rw [e,q_oq]
   exact Fin3.of (Sub3.new hp) k'
abbrev N_loads_of : List Str:=["works","dealing"]
theorem sc_loads_of : FnScope N_loads_of N_loads_of (defScope (top 6)):=sc_mk
theorem ok_loads_of {f : Addr} {fd : FuncData} (g : G3 K mg "loads_of" (top 6) N_loads_of f fd) (B : Bl mg) (F_load_of : Cal P w K mg base 1 "load_of" (top 5) ["works","tasks"] spLo) : Cal P w K mg base 2 "loads_of" (top 6) N_loads_of spLs:=by
 refine ⟨f,fd,g,?_⟩
 refine fn3 g.fn sc_loads_of (fun ts H Q h => ?_) (fun cdv A outer s H E ts H3 Q hr h => ?_)
 ·
  obtain ⟨W,D,rfl,_⟩:=h; rfl
 ·
  have hu30:=Room.u30 hr
  have hu31:=Room.u31 hr
  have hu1:=Room.u1 hr
  obtain ⟨W,D,rfl,t8,d8,k⟩:=h
  refine ⟨_,(ss3_one (s3_ret (e3_callTy c3_tuple rfl B.tuple_ bt_tuple (a3_cons (e3_comp rfl (compSc (n0:=(defScope (top 6)).names) (N:=N_loads_of) (N':=["tasks","works"]) (nt:=1) (cap:=[0]) rfl rfl (by decide +kernel)) (i3_tup (v3 1)) (fun cl pins s H C0 fp => ⟨(g3_name (i:=0) (show List.Nodup [("tasks" : Str),("works" : Str)] by decide +kernel)),if3_nil,(e3_cl F_load_of hr rfl (a3_cons (v3 1) (a3_cons (v3 0) a3_nil)))⟩)) a3_nil)))),?_⟩
  rw [show start3 N_loads_of [W.enc,T.tup (D.map sT)] = [some (W.enc),some (T.tup (D.map sT))] from rfl]
  have hsz : sizeLine = 16777216:=rfl
  have k' : Q (.tup ((D.map (ld W.tasks)).map T.int)) H3:=k
  clear k
  replace t8 : W.tasks.length <= 8:=t8
  walk_at "rd"
  walk_at "cp"
  refine cIter_pure sT (fun ns => .int (ld W.tasks ns)) D [some (W.enc)] trivial (by omega) (fun ns hn Q' hq => ?_) (fun pc hpc => ?_)
  ·
   exact ⟨W,ns,rfl,t8,hq⟩
  ·
   walk_at "rd"
   rw [List.map_map] at k'
   exact Fin3.of (Sub3.new hpc) k'
end
end M
namespace M
open PySem PySem.Spec PyProof.Rows L2 L3
local macro_rules | `(tactic| walk_at "cp") => `(tactic| dsimp only [cap3,List.replicate,List.map_cons,List.map_nil,List.cons_append,List.nil_append,List.getElem?_cons_zero,List.getElem?_cons_succ,Option.getD_some])
local macro_rules | `(tactic| walk_at "nx") => `(tactic| (obtain ⟨e⟩:=‹Shut (_ = _)›; subst e; try dsimp only))
local macro_rules | `(tactic| walk_at "rd") => do
 let ls <- ((nm0 ++ " q_is isN_non isN_int isN_str isN_tup isN_bl tOrT3 q_orN q_orT q_extT q_exT q_upper q_neR q_neRH q_dict q_dcH q_sumT q_revT q_rvT q_tSlT q_slT' q_diq q_diH tDIn3 q_ixHr").splitOn " ").toArray.mapM fun n => let i:=Lean.mkIdent n.toName; `(Lean.Parser.Tactic.simpLemma| $i:ident)
 `(tactic| ((try dsimp only [$[$ls:simpLemma],*]); try simp only [*,$[$ls:simpLemma],*]))
section
variable {P : Program} {w : World} {K : PySem.W.Frag} {mg : Str -> Option Value} {base : Heap}
abbrev N_beat_fault : List Str:=["works","beat","dealing","stand","load"]
theorem sc_beat_fault : FnScope N_beat_fault ["works","beat","dealing"] (defScope (top 16)):=sc_mk
theorem ok_beat_fault {f : Addr} {fd : FuncData} (g : G3 K mg "beat_fault" (top 16) ["works","beat","dealing"] f fd) (B : Bl mg) (F_loads_of : Cal P w K mg base 2 "loads_of" (top 6) ["works","dealing"] spLs) : Cal P w K mg base 3 "beat_fault" (top 16) ["works","beat","dealing"] spBf:=by
 refine ⟨f,fd,g,?_⟩
 refine fn3 g.fn sc_beat_fault (fun ts H Q h => ?_) (fun cdv A outer s H E ts H3 Q hr h => ?_)
 ·
  obtain ⟨W,b,D,rfl,_⟩:=h; rfl
 ·
  have hu30:=Room.u30 hr
  have hu31:=Room.u31 hr
  have hu1:=Room.u1 hr
  obtain ⟨W,beat,D,rfl,hW,hd,k⟩:=h
  refine ⟨_,(ss3_cons (s3_for PassesOwn.never rfl (i3_enumT rfl B.enumerate_ (e3_cl F_loads_of hr rfl (a3_cons (v3 0) (a3_cons (v3 2) a3_nil)))) (g3_tup (n:=2) rfl (gs3_cons (g3_name (i:=3) sc_beat_fault.nd) (gs3_cons (g3_name (i:=4) sc_beat_fault.nd) gs3_nil))) (ss3_one (s3_if (t3_cmp o3_gt (v3 4) (v3 1)) (ss3_one (s3_ret (e3_tup (a3_cons c3_str (a3_cons (v3 3) a3_nil))))) ss3_nil)))
    (ss3_one (s3_ret c3_non))),?_⟩
  rw [show start3 N_beat_fault [W.enc,T.int beat,T.tup (D.map sT)] = [some (W.enc),some (T.int beat),some (T.tup (D.map sT)),none,none] from rfl]
  have hsz : sizeLine = 16777216:=rfl
  have k':=Box.mk k
  clear k
  have t8 : W.tasks.length <= 8:=hW.t8
  have d8 : D.length <= 8:=Nat.le_trans hd.rw hW.r8
  replace k' : Box (Q (oE (beaG (ld W.tasks) beat 0 D)) H3):=k'
  clear hd hW
  refine seq_cut fun R0 hR0 => ?_
  walk_at "rd"
  refine ⟨W,D,rfl,t8,d8,?_⟩
  walk_at "rd"
  rw [List.map_map]
  refine iter_enum (T.int ∘ ld W.tasks) D (fun A σ H => (∃ v3 v4 : Option T,σ = [some (W.enc),some (.int beat),some (.tup (D.map sT)),v3,v4]) /\ H = H3 /\ Box (∀ s' ∈ A,ld W.tasks s' <= beat)) ⟨⟨_,_,rfl⟩,rfl,⟨fun _ h => (nomatch h)⟩⟩ ?_ ?_
  ·
   rintro σ H ⟨⟨v3,v4,rfl⟩,rfl,ha⟩
   refine ⟨trivial,?_⟩
   walk_at "nx"
   walk_at "rd"
   have:=k'.out
   rw [bea_no ha.out] at this
   exact Fin3.of Sub3.refl this
  ·
   rintro A s B σ H N e ⟨⟨v3,v4,rfl⟩,rfl,ha⟩ hN
   have hN':=Box.mk hN
   have e':=Box.mk e
   clear hN e hR0
   refine ⟨trivial,?_⟩
   simp only [Function.comp]
   walk_at "rd"
   try refine ⟨trivial,?_⟩
   by_cases c : ld W.tasks s > beat
   ·
    rw [if_pos (by simpa using c)]
    refine ⟨by decide,?_⟩
    have:=k'.out
    rw [e'.out,bea_hit ha.out c,Nat.zero_add] at this
    exact Fin3.of Sub3.refl this
   ·
    rw [if_neg (by simpa using c)]
    exact hN'.out _ _ ⟨⟨_,_,rfl⟩,rfl,⟨fun a h => (List.mem_append.mp h).elim (ha.out a) fun z => by rw [List.mem_singleton.mp z]; omega⟩⟩
abbrev N_kind_fault : List Str:=["works","dealing","kinds","stand","tasks","task"]
theorem sc_kind_fault : FnScope N_kind_fault ["works","dealing"] (defScope (top 15)):=sc_mk
theorem ok_kind_fault {f : Addr} {fd : FuncData} (g : G3 K mg "kind_fault" (top 15) ["works","dealing"] f fd) (B : Bl mg) (F_may_be_done : Cal P w K mg base 1 "may_be_done" (top 1) ["kinds","kind"] spMy) : Cal P w K mg base 2 "kind_fault" (top 15) ["works","dealing"] spKf:=by
 refine ⟨f,fd,g,?_⟩
 refine fn3 g.fn sc_kind_fault (fun ts H Q h => ?_) (fun cdv A outer s H E ts H3 Q hr h => ?_)
 ·
  obtain ⟨W,D,rfl,_⟩:=h; rfl
 ·
  have hu30:=Room.u30 hr
  have hu31:=Room.u31 hr
  have hu1:=Room.u1 hr
  obtain ⟨W,D,rfl,hW,hl,hd,k⟩:=h
  refine ⟨_,(ss3_cons (s3_set (i:=2) sc_kind_fault.nd (e3_callTy (c3_dict rfl) rfl B.dict_ bt_dict (a3_cons (e3_comp rfl (compSc (n0:=(defScope (top 15)).names) (N:=N_kind_fault) (N':=["task"]) (nt:=1) (cap:=[]) rfl rfl (by decide +kernel)) (i3_tup (e3_ix ix3 (v3 0) c3_int)) (fun cl pins s H C0 fp => ⟨(g3_name (i:=0) (show List.Nodup [("task" : Str)] by decide +kernel)),if3_nil,(e3_tup (a3_cons (e3_ix ix3 (v3 0) c3_int) (a3_cons (e3_ix ix3 (v3 0) c3_int) a3_nil)))⟩)) a3_nil)))
    (ss3_cons (s3_for PassesOwn.never rfl (i3_enumT rfl B.enumerate_ (v3 1)) (g3_tup (n:=2) rfl (gs3_cons (g3_name (i:=3) sc_kind_fault.nd) (gs3_cons (g3_name (i:=4) sc_kind_fault.nd) gs3_nil))) (ss3_one (s3_for PassesOwn.never rfl (i3_tup (v3 4)) (g3_name (i:=5) sc_kind_fault.nd) (ss3_one (s3_if (t3_not (t3_val (e3_cl F_may_be_done hr rfl (a3_cons (e3_dget hu1 (v3 2) (v3 5)) (a3_cons (e3_ix ix3 (e3_ix ix3 (v3 0) c3_int) (v3 3)) a3_nil))))) (ss3_one (s3_ret (e3_tup (a3_cons c3_str (a3_cons (v3 5) (a3_cons (v3 3) a3_nil)))))) ss3_nil)))))
    (ss3_one (s3_ret c3_non)))),?_⟩
  rw [show start3 N_kind_fault [W.enc,T.tup (D.map sT)] = [some (W.enc),some (T.tup (D.map sT)),none,none,none,none] from rfl]
  have hsz : sizeLine = 16777216:=rfl
  have k':=Box.mk k
  clear k
  have t8 : W.tasks.length <= 8:=hW.t8
  have r8 : W.row.length <= 8:=hW.r8
  have hnd : (W.tasks.map (·.1)).Nodup:=hW.nd
  have hdr : D.length <= W.row.length:=hd.rw
  have hin : Box (∀ s ∈ D,∀ n ∈ s,n ∈ W.tasks.map (·.1)):=⟨fun s hs => (hd.in hs).2⟩
  replace k' : Box (Q (oE (kinG (kdOf W.tasks) W.row 0 D)) H3):=k'
  clear hd hW
  have hnd':=Box.mk hnd
  clear hnd
  refine seq_cut fun R0 hR0 => ?_
  walk_at "rd"
  walk_at "cp"
  refine cIter_pure tkT (fun t => T.tup [.str t.1,sT t.2.2]) W.tasks [] trivial (by omega) (fun t ht Q' hq => ?_) (fun pc hpc => ?_)
  ·
   have hq':=Box.mk hq
   clear hq k' hR0
   simp only [tkT]
   walk_at "rd"
   exact ⟨by decide,hq'.out⟩
  have hpr : prd3 (W.tasks.map fun t => T.tup [.str t.1,sT t.2.2]) = some (kN W.tasks):=prd3_map (fun t : Str × Int × List Str => (t.1,sT t.2.2)) W.tasks
  walk_at "rd"
  refine ⟨by unfold kN; rw [List.map_map]; exact hnd'.out,fun p hp => ?_⟩
  have hp0 : H3 p = none:=(up3_none hp).2
  have npc : p ≠ pc:=fun e => by rw [e,up3_same] at hp; cases hp
  generalize hH : up3 (up3 H3 pc _) p (.dct (kN W.tasks)) = H4
  have g1 : H4 p = some (.dct (kN W.tasks)):=by rw [<- hH]; exact up3_same
  have sb : Sub3 H3 H4:=by rw [<- hH]; exact (Sub3.new hpc).trans (Sub3.new hp)
  clear hH hp hpr hpc hp0
  walk_at "nx"
  refine seq_cut fun R1 hR1 => ?_
  walk_at "rd"
  refine iter_enum sT D (fun A σ H => (∃ v3 v4 v5 : Option T,σ = [some (W.enc),some (.tup (D.map sT)),some (.ref p),v3,v4,v5]) /\ H = H4 /\ Box (∀ (j : Nat) (s' : List Str),A[j]? = some s' -> ∀ n ∈ s',okK (kdOf W.tasks n) (W.row.getD (0 + j) "") = true)) ⟨⟨_,_,_,rfl⟩,rfl,⟨fun j s' h => by simp at h⟩⟩ ?_ ?_
  ·
   rintro σ H ⟨⟨v3,v4,v5,rfl⟩,rfl,ha⟩
   refine ⟨trivial,?_⟩
   walk_at "nx"
   walk_at "rd"
   have:=k'.out
   rw [kin_no ha.out] at this
   exact Fin3.of sb this
  ·
   rintro A s B σ H N e ⟨⟨v3,v4,v5,rfl⟩,rfl,ha⟩ hN
   have hA : A.length < W.row.length:=by
    have:=congrArg List.length e
    simp only [List.length_append,List.length_cons] at this
    omega
   have hs : Box (∀ n ∈ s,n ∈ W.tasks.map (·.1)):=⟨hin.out s (by rw [e]; simp)⟩
   have x1:=getD_at hA
   have hN':=Box.mk hN
   have e':=Box.mk e
   clear hN e hR1
   refine ⟨trivial,?_⟩
   simp only [sT]
   walk_at "rd"
   try refine ⟨trivial,?_⟩
   refine iter_pre T.str s (fun C σ H' => (∃ v5 : Option T,σ = [some (W.enc),some (.tup (D.map sT)),some (.ref p),some (.int (A.length : Int)),some (.tup (s.map T.str)),v5]) /\ H' = H /\ Box (∀ n ∈ C,okK (kdOf W.tasks n) (W.row.getD A.length "") = true)) ⟨⟨_,rfl⟩,rfl,⟨fun _ h => (nomatch h)⟩⟩ ?_ ?_
   ·
    rintro σ H ⟨⟨v5,rfl⟩,rfl,hc⟩
    refine ⟨trivial,hN'.out _ _ ⟨⟨_,_,_,rfl⟩,rfl,⟨fun j s' hj n hn => ?_⟩⟩⟩
    rw [Nat.zero_add]
    rcases Nat.lt_or_ge j A.length with h | h
    ·
     rw [List.getElem?_append_left h] at hj
     have:=ha.out j s' hj n hn
     rwa [Nat.zero_add] at this
    ·
     rw [List.getElem?_append_right h] at hj
     have ej : j - A.length = 0:=by
      cases q : j - A.length with
      | zero => rfl
      | succ z => rw [q] at hj; simp at hj
     rw [ej] at hj
     simp only [List.getElem?_cons_zero,Option.some.injEq] at hj
     subst hj
     rw [show j = A.length by omega]
     exact hc.out n hn
   ·
    rintro C n E' σ H N2 e2 ⟨⟨v5,rfl⟩,rfl,hc⟩ hN2
    have l1:=kN_look (hs.out n (by rw [e2]; simp))
    have hN2':=Box.mk hN2
    have e2':=Box.mk e2
    clear hN2 e2
    refine ⟨trivial,?_⟩
    have hN3:=Box.mk hN'
    clear hN'
    walk_at "rd"
    refine ⟨kdOf W.tasks n,W.row.getD A.length "",rfl,?_⟩
    cases c : okK (kdOf W.tasks n) (W.row.getD A.length "") with
    | true =>
     walk_at "rd"
     exact hN2'.out _ _ ⟨⟨_,rfl⟩,rfl,⟨fun a h => (List.mem_append.mp h).elim (hc.out a) fun z => by rw [List.mem_singleton.mp z]; exact c⟩⟩
    | false =>
     walk_at "rd"
     refine ⟨by decide,?_⟩
     have:=k'.out
     rw [e'.out,kin_hit (A:=A) (k:=0) ha.out (n:=n) (by
      rw [Nat.zero_add,e2'.out]
      exact find_hit (fun a h => by rw [hc.out a h]; rfl) (by rw [c]; rfl)),Nat.zero_add] at this
     exact Fin3.of sb this
abbrev N_tasks_fault : List Str:=["works","dealing"]
theorem sc_tasks_fault : FnScope N_tasks_fault N_tasks_fault (defScope (top 17)):=sc_mk
theorem ok_tasks_fault {f : Addr} {fd : FuncData} (g : G3 K mg "tasks_fault" (top 17) N_tasks_fault f fd) (B : Bl mg) (F_number_fault : Cal P w K mg base 1 "number_fault" (top 9) N_tasks_fault spNf) (F_strange_fault : Cal P w K mg base 2 "strange_fault" (top 10) N_tasks_fault spSf) (F_twice_fault : Cal P w K mg base 2 "twice_fault" (top 11) ["dealing"] spTf) (F_lost_fault : Cal P w K mg base 2 "lost_fault" (top 12) N_tasks_fault spLf) : Cal P w K mg base 3 "tasks_fault" (top 17) N_tasks_fault spTk:=by
 refine ⟨f,fd,g,?_⟩
 refine fn3 g.fn sc_tasks_fault (fun ts H Q h => ?_) (fun cdv A outer s H E ts H3 Q hr h => ?_)
 ·
  obtain ⟨W,D,rfl,_⟩:=h; rfl
 ·
  have hu30:=Room.u30 hr
  have hu31:=Room.u31 hr
  have hu1:=Room.u1 hr
  obtain ⟨W,D,rfl,hW,hl,k⟩:=h
  refine ⟨_,(ss3_one (s3_ret (e3_orT (e3_cl F_number_fault hr rfl (a3_cons (v3 0) (a3_cons (v3 1) a3_nil))) (e3_orT (e3_cl F_strange_fault hr rfl (a3_cons (v3 0) (a3_cons (v3 1) a3_nil))) (e3_orT (e3_cl F_twice_fault hr rfl (a3_cons (v3 1) a3_nil)) (e3_one (e3_cl F_lost_fault hr rfl (a3_cons (v3 0) (a3_cons (v3 1) a3_nil))))))))),?_⟩
  rw [show start3 N_tasks_fault [W.enc,T.tup (D.map sT)] = [some (W.enc),some (T.tup (D.map sT))] from rfl]
  have hsz : sizeLine = 16777216:=rfl
  have k':=Box.mk k
  clear k
  have hW':=Box.mk hW
  clear hW
  replace k' : Box (Q (oE ((numF W.row D).or ((strF (W.tasks.map (·.1)) D.flatten).or ((twF D.flatten).or (losF (W.tasks.map (·.1)) D.flatten))))) H3):=k'
  walk_at "rd"
  refine ⟨W,D,rfl,?_⟩
  refine or_step (isF_num W.row D) (Q:=fun t => Fin3 Q t H3) (fun h1 => ?_) (fun t e => by have:=k'.out; rw [e] at this; exact Fin3.of Sub3.refl this)
  rw [h1] at k'
  clear h1
  refine ⟨W,D,rfl,hW'.out,hl,?_⟩
  refine or_step (isF_str _ _) (Q:=fun t => Fin3 Q t H3) (fun h1 => ?_) (fun t e => by have:=k'.out; (try dsimp only at e); rw [e] at this; exact Fin3.of Sub3.refl this)
  try dsimp only at h1
  rw [h1] at k'
  clear h1
  refine ⟨D,rfl,hl,?_⟩
  refine or_step (isF_tw _) (Q:=fun t => Fin3 Q t H3) (fun h1 => ?_) (fun t e => by have:=k'.out; rw [e] at this; exact Fin3.of Sub3.refl this)
  rw [h1] at k'
  exact ⟨W,D,rfl,hW'.out,hl,Fin3.of Sub3.refl k'.out⟩
abbrev N_fault_of : List Str:=["works","beat","dealing"]
theorem sc_fault_of : FnScope N_fault_of N_fault_of (defScope (top 18)):=sc_mk
theorem ok_fault_of {f : Addr} {fd : FuncData} (g : G3 K mg "fault_of" (top 18) N_fault_of f fd) (B : Bl mg) (F_tasks_fault : Cal P w K mg base 3 "tasks_fault" (top 17) ["works","dealing"] spTk) (F_order_fault : Cal P w K mg base 2 "order_fault" (top 13) ["works","dealing"] spOf) (F_pair_fault : Cal P w K mg base 2 "pair_fault" (top 14) ["works","dealing"] spPf) (F_kind_fault : Cal P w K mg base 2 "kind_fault" (top 15) ["works","dealing"] spKf) (F_beat_fault : Cal P w K mg base 3 "beat_fault" (top 16) N_fault_of spBf) : Cal P w K mg base 4 "fault_of" (top 18) N_fault_of spFo:=by
 refine ⟨f,fd,g,?_⟩
 refine fn3 g.fn sc_fault_of (fun ts H Q h => ?_) (fun cdv A outer s H E ts H3 Q hr h => ?_)
 ·
  obtain ⟨W,b,D,rfl,_⟩:=h; rfl
 ·
  have hu30:=Room.u30 hr
  have hu31:=Room.u31 hr
  have hu1:=Room.u1 hr
  obtain ⟨W,beat,D,rfl,hW,hl,hD,k⟩:=h
  refine ⟨_,(ss3_one (s3_ret (e3_orT (e3_cl F_tasks_fault hr rfl (a3_cons (v3 0) (a3_cons (v3 2) a3_nil))) (e3_orT (e3_cl F_order_fault hr rfl (a3_cons (v3 0) (a3_cons (v3 2) a3_nil))) (e3_orT (e3_cl F_pair_fault hr rfl (a3_cons (v3 0) (a3_cons (v3 2) a3_nil))) (e3_orT (e3_cl F_kind_fault hr rfl (a3_cons (v3 0) (a3_cons (v3 2) a3_nil))) (e3_one (e3_cl F_beat_fault hr rfl (a3_cons (v3 0) (a3_cons (v3 1) (a3_cons (v3 2) a3_nil))))))))))),?_⟩
  rw [show start3 N_fault_of [W.enc,T.int beat,T.tup (D.map sT)] = [some (W.enc),some (T.int beat),some (T.tup (D.map sT))] from rfl]
  have hsz : sizeLine = 16777216:=rfl
  have k':=Box.mk k
  clear k
  have hW':=Box.mk hW
  clear hW
  replace k' : Box (Q (oE ((tskF W D).or ((ordF (fD D) W.orders).or ((paiF (fD D) W.pairs).or ((kinG (kdOf W.tasks) W.row 0 D).or (beaG (ld W.tasks) beat 0 D)))))) H3):=k'
  walk_at "rd"
  refine ⟨W,D,rfl,hW'.out,hl,?_⟩
  refine or_step (isF_tsk _ D) (Q:=fun t => Fin3 Q t H3) (fun h1 => ?_) (fun t e => by have:=k'.out; rw [e] at this; exact Fin3.of Sub3.refl this)
  have hd:=Box.mk (Dok.of h1)
  rw [h1] at k'
  clear h1
  refine ⟨W,D,rfl,hW'.out,hl,hd.out,?_⟩
  refine or_step (isF_ord _ _) (Q:=fun t => Fin3 Q t H3) (fun h1 => ?_) (fun t e => by have:=k'.out; (try dsimp only at e); rw [e] at this; exact Fin3.of Sub3.refl this)
  try dsimp only at h1
  rw [h1] at k'
  clear h1
  refine ⟨W,D,rfl,hW'.out,hl,hd.out,?_⟩
  refine or_step (isF_pai _ _) (Q:=fun t => Fin3 Q t H3) (fun h1 => ?_) (fun t e => by have:=k'.out; (try dsimp only at e); rw [e] at this; exact Fin3.of Sub3.refl this)
  try dsimp only at h1
  rw [h1] at k'
  clear h1
  refine ⟨W,D,rfl,hW'.out,hl,hd.out,?_⟩
  refine or_step (isF_kin _ _ _ _) (Q:=fun t => Fin3 Q t H3) (fun h1 => ?_) (fun t e => by have:=k'.out; (try dsimp only at e); rw [e] at this; exact Fin3.of Sub3.refl this)
  try dsimp only at h1
  rw [h1] at k'
  exact ⟨W,beat,D,rfl,hW'.out,hd.out,Fin3.of Sub3.refl k'.out⟩
abbrev N_flat : List Str:=["_law_dealing_here","_law_found","_law_stand"]
theorem sc_flat : FnScope N_flat ["_law_dealing_here"] (defScope (top 33)):=sc_mk
theorem ok_flat {f : Addr} {fd : FuncData} (g : G3 K mg "_law_flat" (top 33) ["_law_dealing_here"] f fd) (B : Bl mg) : Cal P w K mg base 1 "_law_flat" (top 33) ["_law_dealing_here"] spTx:=by
 refine ⟨f,fd,g,?_⟩
 refine fn3 g.fn sc_flat (fun ts H Q h => ?_) (fun cdv A outer s H E ts H3 Q hr h => ?_)
 ·
  obtain ⟨D,rfl,_⟩:=h; rfl
 ·
  have hu30:=Room.u30 hr
  have hu31:=Room.u31 hr
  have hu1:=Room.u1 hr
  obtain ⟨D,rfl,hl,k⟩:=h
  refine ⟨_,(ss3_cons (s3_set (i:=1) sc_flat.nd (e3_lst a3_nil))
    (ss3_cons (s3_for PassesOwn.never rfl (i3_tup (v3 0)) (g3_name (i:=2) sc_flat.nd) (ss3_one (s3_set (i:=1) sc_flat.nd (e3_op o3_add (v3 1) (e3_callTy c3_list rfl B.list_ bt_list (a3_cons (v3 2) a3_nil))))))
    (ss3_one (s3_ret (v3 1))))),?_⟩
  rw [show start3 N_flat [T.tup (D.map sT)] = [some (T.tup (D.map sT)),none,none] from rfl]
  have hsz : sizeLine = 16777216:=rfl
  have k':=Box.mk k
  clear k
  refine seq_cut fun R0 hR0 => ?_
  walk_at "rd"
  refine ⟨by decide,fun p hp => ?_⟩
  walk_at "nx"
  refine seq_cut fun R1 hR1 => ?_
  walk_at "rd"
  refine iter_pre sT D (fun A σ H => ∃ (v : Option T) (q : Addr),σ = [some (.tup (D.map sT)),some (.ref q),v] /\ H q = some (.lst (A.flatten.map T.str)) /\ H3 q = none /\ Sub3 H3 H) ⟨_,p,rfl,up3_same,hp,Sub3.new hp⟩ ?_ ?_
  ·
   rintro σ H ⟨v,q,rfl,g,hq,sb⟩
   refine ⟨trivial,?_⟩
   walk_at "nx"
   walk_at "rd"
   refine Fin3.of (fun b o e => ?_) (k'.out q hq)
   by_cases eb : b = q
   ·
    subst eb; rw [up3_same] at e; rw [g]; exact e
   ·
    rw [up3_ne eb] at e; exact sb b o e
  ·
   rintro A s B σ H N e ⟨v,q,rfl,g,hq,sb⟩ hN
   have hs : A.flatten.length + s.length <= 1000:=by
    have:=congrArg (fun x => x.flatten.length) e
    simp only [flat_pre,List.length_append] at this
    omega
   have ef : (A ++ [s]).flatten.map T.str = A.flatten.map T.str ++ s.map T.str:=by simp
   have hN':=Box.mk hN
   have ef':=Box.mk ef
   clear hN e k' hR1 ef
   refine ⟨trivial,?_⟩
   simp only [sT]
   walk_at "rd"
   intro p1 hp1
   have n1 : q ≠ p1:=ne3n g hp1
   walk_at "rd"
   refine ⟨by omega,fun p2 hp2 => ?_⟩
   have h2:=up3_none hp2
   refine hN'.out _ _ ⟨_,p2,rfl,by rw [up3_same,ef'.out],sub_none sb h2.2,(sb.trans (Sub3.new hp1)).trans (Sub3.new hp2)⟩
abbrev N_names_fault : List Str:=["_law_names_here","_law_flat_here","_law_task","_law_k","_law_name"]
theorem sc_names_fault : FnScope N_names_fault ["_law_names_here","_law_flat_here"] (defScope (top 34)):=sc_mk
theorem ok_names_fault {f : Addr} {fd : FuncData} (g : G3 K mg "_law_names_fault" (top 34) ["_law_names_here","_law_flat_here"] f fd) (B : Bl mg) : Cal P w K mg base 1 "_law_names_fault" (top 34) ["_law_names_here","_law_flat_here"] spNm:=by
 refine ⟨f,fd,g,?_⟩
 refine fn3 g.fn sc_names_fault (fun ts H Q h => ?_) (fun cdv A outer s H E ts H3 Q hr h => ?_)
 ·
  obtain ⟨a,b,ns,xs,rfl,_⟩:=h; rfl
 ·
  have hu30:=Room.u30 hr
  have hu31:=Room.u31 hr
  have hu1:=Room.u1 hr
  obtain ⟨a,b,ns,xs,rfl,ha,hb,ln,lx,k⟩:=h
  refine ⟨_,(ss3_cons (s3_for PassesOwn.never rfl (i3_list (v3 1)) (g3_name (i:=2) sc_names_fault.nd) (ss3_one (s3_if (t3_cmp (o3_notin hu31) (v3 2) (v3 0) rfl) (ss3_one (s3_ret (e3_tup (a3_cons c3_str (a3_cons (v3 2) a3_nil))))) ss3_nil)))
    (ss3_cons (s3_for PassesOwn.never rfl (i3_range1 rfl B.range_ (a3_cons (e3_callB c3_len rfl B.len_ bt_len (a3_cons (v3 1) a3_nil)) a3_nil)) (g3_name (i:=3) sc_names_fault.nd) (ss3_one (s3_if (t3_cmp (o3_in hu31) (e3_ix ix3 (v3 1) (v3 3)) (e3_slice (v3 1) po3_none (po3_some (v3 3))) rfl) (ss3_one (s3_ret (e3_tup (a3_cons c3_str (a3_cons (e3_ix ix3 (v3 1) (v3 3)) a3_nil))))) ss3_nil)))
    (ss3_cons (s3_for PassesOwn.never rfl (i3_list (v3 0)) (g3_name (i:=4) sc_names_fault.nd) (ss3_one (s3_if (t3_cmp (o3_notin hu31) (v3 4) (v3 1) rfl) (ss3_one (s3_ret (e3_tup (a3_cons c3_str (a3_cons (v3 4) a3_nil))))) ss3_nil)))
    (ss3_one (s3_ret c3_non))))),?_⟩
  rw [show start3 N_names_fault [T.ref a,T.ref b] = [some (T.ref a),some (T.ref b),none,none,none] from rfl]
  have hsz : sizeLine = 16777216:=rfl
  have k':=Box.mk k
  clear k
  have pn:=pl_strs ns
  have px:=pl_strs xs
  replace k' : Box (Q (oE ((strF ns xs).or ((twF xs).or (losF ns xs)))) H3):=k'
  refine seq_cut fun R0 hR0 => ?_
  have hR0':=Box.mk hR0
  clear hR0
  walk_at "rd"
  refine iter_pre T.str xs (fun A σ H => (∃ v : Option T,σ = [some (.ref a),some (.ref b),v,none,none]) /\ H = H3 /\ Box (∀ z ∈ A,z ∈ ns)) ⟨⟨_,rfl⟩,rfl,⟨fun _ h => (nomatch h)⟩⟩ ?_ ?_
  rotate_left
  ·
   rintro A x B σ H N e ⟨⟨v,rfl⟩,rfl,hA⟩ hN
   have hN':=Box.mk hN
   have e':=Box.mk e
   clear hN e hR0'
   refine ⟨.inl hb,?_⟩
   walk_at "rd"
   refine ⟨rfl,trivial,?_⟩
   rw [memS]
   by_cases c : x ∈ ns
   ·
    rw [if_neg (by simp [c])]
    exact hN'.out _ _ ⟨⟨_,rfl⟩,rfl,⟨fun a h => (List.mem_append.mp h).elim (hA.out a) fun z => by rw [List.mem_singleton.mp z]; exact c⟩⟩
   ·
    rw [if_pos (by simp [c])]
    refine ⟨by decide,?_⟩
    have e : strF ns xs = some (.tup [.str "strange",.str x]):=by unfold strF; rw [e'.out,find_hit (fun a h => by rw [decide_eq_true (hA.out a h)]; rfl) (by simp [c])]; rfl
    have:=k'.out
    rw [e] at this
    exact Fin3.of Sub3.refl this
  rintro σ H ⟨⟨v,rfl⟩,rfl,hA⟩
  refine ⟨.inl hb,?_⟩
  have e : strF ns xs = none:=by unfold strF; rw [find_no (fun a h => by rw [decide_eq_true (hA.out a h)]; rfl)]; rfl
  rw [e] at k'
  clear hA e
  obtain ⟨⟨hR0⟩⟩:=hR0'
  subst hR0
  try dsimp only
  refine seq_cut fun R1 hR1 => ?_
  have hR1':=Box.mk hR1
  clear hR1
  walk_at "rd"
  refine ⟨by first | trivial | omega,by omega,by omega,?_⟩
  refine iter_rng xs (fun A σ H' => (∃ u : Option T,σ = [some (.ref a),some (.ref b),v,u,none]) /\ H' a = some (.lst (ns.map T.str)) /\ H' b = some (.lst (xs.map T.str)) /\ Sub3 H H' /\ Box A.Nodup) ⟨⟨_,rfl⟩,ha,hb,Sub3.refl,⟨List.nodup_nil⟩⟩ ?_ ?_
  rotate_left
  ·
   rintro A x B σ H' N e ⟨⟨w3,rfl⟩,ha,hb,sb,hA⟩ hN
   have x1 : atI (xs.map T.str) (A.length : Int) = some (.str x):=by rw [e]; exact at_pre T.str
   have x2 : cut3 (xs.map T.str) none (some (A.length : Int)) = A.map T.str:=by rw [cut_to,e,List.map_append,List.take_left' (by rw [List.length_map])]
   have hlA : A.length <= 1000:=by
    have:=congrArg List.length e
    simp only [List.length_append,List.length_cons] at this
    omega
   have pA:=pl_strs A
   have hN':=Box.mk hN
   have e':=Box.mk e
   clear hN e hR1'
   refine ⟨trivial,?_⟩
   walk_at "rd"
   intro p hp
   have n1 : a ≠ p:=ne3n ha hp
   have n2 : b ≠ p:=ne3n hb hp
   walk_at "rd"
   refine ⟨rfl,by first | trivial | exact pA,?_⟩
   rw [memS']
   by_cases c : x ∈ A
   ·
    rw [if_pos (by simp [c])]
    walk_at "rd"
    refine ⟨by decide,?_⟩
    have e : twF xs = some (.tup [.str "twice",.str x]):=by unfold twF; rw [e'.out,twG_hit (sn:=[]) (by simpa using hA.out) (by simpa using c)]; rfl
    have:=k'.out
    rw [e] at this
    exact Fin3.of (sb.trans (Sub3.new hp)) this
   ·
    rw [if_neg (by simp [c])]
    exact hN'.out _ _ ⟨⟨_,rfl⟩,by rw [up3_ne n1]; exact ha,by rw [up3_ne n2]; exact hb,sb.trans (Sub3.new hp),⟨nd_snoc hA.out c⟩⟩
  rintro σ H' ⟨⟨w3,rfl⟩,ha,hb,sb,hA⟩
  refine ⟨trivial,?_⟩
  have e : twF xs = none:=by unfold twF; rw [twG_no (by simpa using hA.out)]; rfl
  rw [e] at k'
  clear hA e
  obtain ⟨⟨hR1⟩⟩:=hR1'
  subst hR1
  try dsimp only
  refine seq_cut fun R2 hR2 => ?_
  have hR2':=Box.mk hR2
  clear hR2
  walk_at "rd"
  refine iter_pre T.str ns (fun A σ H => (∃ u : Option T,σ = [some (.ref a),some (.ref b),v,w3,u]) /\ H = H' /\ Box (∀ z ∈ A,z ∈ xs)) ⟨⟨_,rfl⟩,rfl,⟨fun _ h => (nomatch h)⟩⟩ ?_ ?_
  ·
   rintro σ H2 ⟨⟨w4,rfl⟩,rfl,hA⟩
   refine ⟨.inl ha,?_⟩
   obtain ⟨⟨hR2⟩⟩:=hR2'
   subst hR2
   walk_at "rd"
   have e : losF ns xs = none:=by unfold losF; rw [find_no (fun a h => by rw [decide_eq_true (hA.out a h)]; rfl)]; rfl
   rw [e] at k'
   exact Fin3.of sb k'.out
  ·
   rintro A x B σ H2 N e ⟨⟨w4,rfl⟩,rfl,hA⟩ hN
   have hN':=Box.mk hN
   have e':=Box.mk e
   clear hN e hR2'
   refine ⟨.inl ha,?_⟩
   walk_at "rd"
   refine ⟨rfl,trivial,?_⟩
   rw [memS]
   by_cases c : x ∈ xs
   ·
    rw [if_neg (by simp [c])]
    exact hN'.out _ _ ⟨⟨_,rfl⟩,rfl,⟨fun a h => (List.mem_append.mp h).elim (hA.out a) fun z => by rw [List.mem_singleton.mp z]; exact c⟩⟩
   ·
    rw [if_pos (by simp [c])]
    refine ⟨by decide,?_⟩
    have e : losF ns xs = some (.tup [.str "lost",.str x]):=by unfold losF; rw [e'.out,find_hit (fun a h => by rw [decide_eq_true (hA.out a h)]; rfl) (by simp [c])]; rfl
    have:=k'.out
    rw [e] at this
    exact Fin3.of sb this
abbrev N_at : List Str:=["_law_dealing_here","_law_found","_law_k","_law_task"]
theorem sc_at : FnScope N_at ["_law_dealing_here"] (defScope (top 35)):=sc_mk
theorem ok_at {f : Addr} {fd : FuncData} (g : G3 K mg "_law_at" (top 35) ["_law_dealing_here"] f fd) (B : Bl mg) : Cal P w K mg base 1 "_law_at" (top 35) ["_law_dealing_here"] spAt:=by
 refine ⟨f,fd,g,?_⟩
 refine fn3 g.fn sc_at (fun ts H Q h => ?_) (fun cdv A outer s H E ts H3 Q hr h => ?_)
 ·
  obtain ⟨D,rfl,_⟩:=h; rfl
 ·
  have hu30:=Room.u30 hr
  have hu31:=Room.u31 hr
  have hu1:=Room.u1 hr
  obtain ⟨D,rfl,hl,hD,k⟩:=h
  refine ⟨_,(ss3_cons (s3_set (i:=1) sc_at.nd e3_dnew)
    (ss3_cons (s3_for PassesOwn.never rfl (i3_range1 rfl B.range_ (a3_cons (e3_callB c3_len rfl B.len_ bt_len (a3_cons (v3 0) a3_nil)) a3_nil)) (g3_name (i:=2) sc_at.nd) (ss3_one (s3_for PassesOwn.never rfl (i3_tup (e3_ix ix3 (v3 0) (v3 2))) (g3_name (i:=3) sc_at.nd) (ss3_one (s3_dput hu1 (v3 1) (v3 3) (v3 2))))))
    (ss3_one (s3_ret (v3 1))))),?_⟩
  rw [show start3 N_at [T.tup (D.map sT)] = [some (T.tup (D.map sT)),none,none,none] from rfl]
  have hsz : sizeLine = 16777216:=rfl
  have k':=Box.mk k
  clear k
  refine seq_cut fun R0 hR0 => ?_
  walk_at "rd"
  intro p hp
  walk_at "nx"
  refine seq_cut fun R1 hR1 => ?_
  walk_at "rd"
  refine ⟨by first | trivial | omega,by omega,by omega,?_⟩
  refine iter_rng D (fun A σ H => ∃ (v2 v3 : Option T),σ = [some (.tup (D.map sT)),some (.ref p),v2,v3] /\ H = up3 H3 p (.dct (dN (kD A) (fD A)))) ⟨_,_,rfl,rfl⟩ ?_ ?_
  ·
   rintro σ H ⟨v2,v3,rfl,rfl⟩
   refine ⟨trivial,?_⟩
   walk_at "nx"
   walk_at "rd"
   exact Fin3.of Sub3.refl (k'.out p hp)
  ·
   rintro A s B σ H N e ⟨v2,v3,rfl,rfl⟩ hN
   have hs : A.flatten.length + s.length <= 1000:=by
    have:=congrArg (fun x => x.flatten.length) e
    simp only [flat_pre,List.length_append] at this
    omega
   have x1 : atI (D.map sT) (A.length : Int) = some (.tup (s.map T.str)):=by rw [e]; exact at_pre sT
   have ek':=Box.mk (kD_snoc A s)
   have ef':=Box.mk (fD_snoc A s)
   have kl:=kD_len A
   have hN':=Box.mk hN
   clear hN e k' hR1
   refine ⟨trivial,?_⟩
   walk_at "rd"
   refine iter_pre T.str s (fun C σ H => ∃ (v4 : Option T),σ = [some (.tup (D.map sT)),some (.ref p),some (.int (A.length : Int)),v4] /\ H = up3 H3 p (.dct (dN (kst (kD A) C) (fst' A.length (fD A) C)))) ⟨_,rfl,rfl⟩ ?_ ?_
   ·
    rintro σ H ⟨v4,rfl,rfl⟩
    exact ⟨trivial,hN'.out _ _ ⟨_,_,rfl,by rw [ek'.out,ef'.out]⟩⟩
   ·
    rintro C n E' σ H N2 e2 ⟨v4,rfl,rfl⟩ hN2
    have hc : C.length < s.length:=by
     have:=congrArg List.length e2
     simp only [List.length_append,List.length_cons] at this
     omega
    have p1:=put_kst (kst (kD A) C) (fst' A.length (fD A) C) n A.length
    rw [<- kst_snoc,<- fst_snoc] at p1
    have l1:=dN_len (kst (kD A) C) (fst' A.length (fD A) C)
    have l2:=kst_len C (kD A)
    have hN2':=Box.mk hN2
    clear hN2 hN' e2 ek' ef' x1
    refine ⟨trivial,?_⟩
    walk_at "rd"
    exact ⟨by omega,hN2'.out _ _ ⟨_,rfl,rfl⟩⟩
abbrev N_laid_fault : List Str:=["_law_works_here","_law_beat_here","_law_dealing_here","_law_at_here","_law_one","_law_other","_law_word","_law_lengths_here","_law_kinds_here","_law_name","_law_length","_law_some","_law_k","_law_task"]
theorem sc_laid_fault : FnScope N_laid_fault ["_law_works_here","_law_beat_here","_law_dealing_here"] (defScope (top 36)):=sc_mk
theorem ok_laid_fault {f : Addr} {fd : FuncData} (g : G3 K mg "_law_laid_fault" (top 36) ["_law_works_here","_law_beat_here","_law_dealing_here"] f fd) (B : Bl mg) (F_at : Cal P w K mg base 1 "_law_at" (top 35) ["_law_dealing_here"] spAt) : Cal P w K mg base 2 "_law_laid_fault" (top 36) ["_law_works_here","_law_beat_here","_law_dealing_here"] spLa:=by
 refine ⟨f,fd,g,?_⟩
 refine fn3 g.fn sc_laid_fault (fun ts H Q h => ?_) (fun cdv A outer s H E ts H3 Q hr h => ?_)
 ·
  obtain ⟨W,b,D,rfl,_⟩:=h; rfl
 ·
  have hu30:=Room.u30 hr
  have hu31:=Room.u31 hr
  have hu1:=Room.u1 hr
  obtain ⟨W,beat,D,rfl,hW,hl,hd,k⟩:=h
  refine ⟨_,(ss3_cons (s3_set (i:=3) sc_laid_fault.nd (e3_cl F_at hr rfl (a3_cons (v3 2) a3_nil)))
    (ss3_cons (s3_for PassesOwn.never rfl (i3_tup (e3_ix ix3 (v3 0) c3_int)) (g3_tup (n:=2) rfl (gs3_cons (g3_name (i:=4) sc_laid_fault.nd) (gs3_cons (g3_name (i:=5) sc_laid_fault.nd) gs3_nil))) (ss3_one (s3_if (t3_cmp o3_gt (e3_dget hu1 (v3 3) (v3 4)) (e3_dget hu1 (v3 3) (v3 5))) (ss3_one (s3_ret (e3_tup (a3_cons c3_str (a3_cons (v3 4) (a3_cons (v3 5) a3_nil)))))) ss3_nil)))
    (ss3_cons (s3_for PassesOwn.never rfl (i3_tup (e3_ix ix3 (v3 0) c3_int)) (g3_tup (n:=3) rfl (gs3_cons (g3_name (i:=6) sc_laid_fault.nd) (gs3_cons (g3_name (i:=4) sc_laid_fault.nd) (gs3_cons (g3_name (i:=5) sc_laid_fault.nd) gs3_nil)))) (ss3_one (s3_if (PW3.pt (w3_or (PW3.pt (w3_and (t3_cmp (o3_eq hu30) (v3 6) c3_str) (w3_and1 (t3_cmp (o3_ne hu30) (e3_dget hu1 (v3 3) (v3 4)) (e3_dget hu1 (v3 3) (v3 5)))))) (w3_or1 (PW3.pt (w3_and (t3_cmp (o3_eq hu30) (v3 6) c3_str) (w3_and1 (t3_cmp (o3_eq hu30) (e3_dget hu1 (v3 3) (v3 4)) (e3_dget hu1 (v3 3) (v3 5))))))))) (ss3_one (s3_ret (e3_tup (a3_cons (v3 6) (a3_cons (v3 4) (a3_cons (v3 5) a3_nil)))))) ss3_nil)))
    (ss3_cons (s3_set (i:=7) sc_laid_fault.nd e3_dnew)
    (ss3_cons (s3_set (i:=8) sc_laid_fault.nd e3_dnew)
    (ss3_cons (s3_for PassesOwn.never rfl (i3_tup (e3_ix ix3 (v3 0) c3_int)) (g3_tup (n:=3) rfl (gs3_cons (g3_name (i:=9) sc_laid_fault.nd) (gs3_cons (g3_name (i:=10) sc_laid_fault.nd) (gs3_cons (g3_name (i:=11) sc_laid_fault.nd) gs3_nil)))) (ss3_cons (s3_dput hu1 (v3 7) (v3 9) (v3 10))
     (ss3_one (s3_dput hu1 (v3 8) (v3 9) (v3 11)))))
    (ss3_cons (s3_for PassesOwn.never rfl (i3_range1 rfl B.range_ (a3_cons (e3_callB c3_len rfl B.len_ bt_len (a3_cons (v3 2) a3_nil)) a3_nil)) (g3_name (i:=12) sc_laid_fault.nd) (ss3_one (s3_for PassesOwn.never rfl (i3_tup (e3_ix ix3 (v3 2) (v3 12))) (g3_name (i:=13) sc_laid_fault.nd) (ss3_one (s3_if (PW3.pt (w3_and (t3_cmp o3_gt (e3_callB c3_len rfl B.len_ bt_len (a3_cons (e3_dget hu1 (v3 8) (v3 13)) a3_nil)) c3_int) (w3_and1 (t3_cmp (o3_notin hu31) (e3_ix ix3 (e3_ix ix3 (v3 0) c3_int) (v3 12)) (e3_dget hu1 (v3 8) (v3 13)) rfl)))) (ss3_one (s3_ret (e3_tup (a3_cons c3_str (a3_cons (v3 13) (a3_cons (v3 12) a3_nil)))))) ss3_nil)))))
    (ss3_cons (s3_for PassesOwn.never rfl (i3_range1 rfl B.range_ (a3_cons (e3_callB c3_len rfl B.len_ bt_len (a3_cons (v3 2) a3_nil)) a3_nil)) (g3_name (i:=12) sc_laid_fault.nd) (ss3_one (s3_if (t3_cmp o3_gt (e3_callB (c3_sum rfl) rfl B.sum_ bt_sum (a3_cons (e3_comp rfl (compSc (n0:=(defScope (top 36)).names) (N:=N_laid_fault) (N':=["_law_task","_law_lengths_here"]) (nt:=1) (cap:=[7]) rfl rfl (by decide +kernel)) (i3_tup (e3_ix ix3 (v3 2) (v3 12))) (fun cl pins s H C0 fp => ⟨(g3_name (i:=0) (show List.Nodup [("_law_task" : Str),("_law_lengths_here" : Str)] by decide +kernel)),if3_nil,(e3_dget hu1 (v3 1) (v3 0))⟩)) a3_nil)) (v3 1)) (ss3_one (s3_ret (e3_tup (a3_cons c3_str (a3_cons (v3 12) a3_nil))))) ss3_nil)))
    (ss3_one (s3_ret c3_non)))))))))),?_⟩
  rw [show start3 N_laid_fault [W.enc,T.int beat,T.tup (D.map sT)] = [some (W.enc),some (T.int beat),some (T.tup (D.map sT)),none,none,none,none,none,none,none,none,none,none,none] from rfl]
  have hsz : sizeLine = 16777216:=rfl
  have k':=Box.mk k
  clear k
  have hoo : Box (∀ o ∈ W.orders,o.1 ∈ W.tasks.map (·.1) /\ o.2 ∈ W.tasks.map (·.1)):=⟨fun o ho => (hW.oo o ho).2⟩
  have hpp : Box (∀ o ∈ W.pairs,(o.1 = ("with" : Str) \/ o.1 = ("apart" : Str)) /\ o.2.1 ∈ W.tasks.map (·.1) /\ o.2.2 ∈ W.tasks.map (·.1)):=⟨fun o ho => ⟨(hW.pp o ho).1,(hW.pp o ho).2.2⟩⟩
  have t8 : W.tasks.length <= 8:=hW.t8
  have r8 : W.row.length <= 8:=hW.r8
  have hdr : D.length <= W.row.length:=hd.rw
  have hnd' : Box ((W.tasks.map (·.1)).Nodup):=⟨hW.nd⟩
  have hin : Box (∀ s ∈ D,s.Nodup /\ ∀ n ∈ s,n ∈ W.tasks.map (·.1)):=⟨fun s hs => hd.in hs⟩
  have hd2 : Box (∀ n ∈ W.tasks.map (·.1),n ∈ kD D):=⟨fun n h => mem_kD.mpr (hd.al n h)⟩
  replace k' : Box (Q (oE ((ordF (fD D) W.orders).or ((paiF (fD D) W.pairs).or ((kinG (kdOf W.tasks) W.row 0 D).or (beaG (ld W.tasks) beat 0 D))))) H3):=k'
  clear hd hW
  refine seq_cut fun R0 hR0 => ?_
  walk_at "rd"
  refine ⟨D,rfl,hl,by omega,fun p hp => ?_⟩
  have g1 : up3 H3 p (.dct (dN (kD D) (fD D))) p = some (.dct (dN (kD D) (fD D))):=up3_same
  have sb : Sub3 H3 (up3 H3 p (.dct (dN (kD D) (fD D)))):=Sub3.new hp
  generalize up3 H3 p (.dct (dN (kD D) (fD D))) = H4 at *
  clear hp
  walk_at "nx"
  refine seq_cut fun R1 hR1 => ?_
  walk_at "rd"
  refine iter_pre orT W.orders (fun A σ H => (∃ v4 v5 : Option T,σ = [some (W.enc),some (.int beat),some (.tup (D.map sT)),some (.ref p),v4,v5,none,none,none,none,none,none,none,none]) /\ H = H4 /\ Box (∀ a ∈ A,(fun o : Str × Str => decide (fD D o.2 < fD D o.1)) a = false)) ⟨⟨_,_,rfl⟩,rfl,⟨fun _ h => (nomatch h)⟩⟩ ?_ ?_
  rotate_left
  ·
   rintro A ⟨x,y⟩ B σ H N e ⟨⟨v4,v5,rfl⟩,rfl,ha⟩ hN
   have hm:=hoo.out (x,y) (by rw [e]; simp)
   have l1:=dN_look (f:=fD D) (hd2.out _ hm.1)
   have l2:=dN_look (f:=fD D) (hd2.out _ hm.2)
   dsimp only at l1 l2
   have hN':=Box.mk hN
   have e':=Box.mk e
   clear hN e hR1 hm
   refine ⟨trivial,?_⟩
   simp only [orT]
   walk_at "rd"
   refine ⟨trivial,?_⟩
   by_cases c : fD D y < fD D x
   ·
    rw [if_pos (by rw [decide_eq_true_iff]; omega)]
    refine ⟨by decide,?_⟩
    have e : ordF (fD D) W.orders = some (.tup [.str "order",.str x,.str y]):=by unfold ordF; rw [e'.out,find_hit ha.out (decide_eq_true c)]; rfl
    have:=k'.out
    rw [e] at this
    exact Fin3.of sb this
   ·
    rw [if_neg (by rw [decide_eq_true_iff]; omega)]
    exact hN'.out _ _ ⟨⟨_,_,rfl⟩,rfl,⟨fun a h => (List.mem_append.mp h).elim (ha.out a) fun z => by rw [List.mem_singleton.mp z]; exact decide_eq_false c⟩⟩
  rintro σ H ⟨⟨v4,v5,rfl⟩,rfl,ha⟩
  refine ⟨trivial,?_⟩
  have e : ordF (fD D) W.orders = none:=by unfold ordF; rw [find_no ha.out]; rfl
  rw [e] at k'
  replace k' : Box (Q (oE ((paiF (fD D) W.pairs).or ((kinG (kdOf W.tasks) W.row 0 D).or (beaG (ld W.tasks) beat 0 D)))) H3):=k'
  clear e ha hoo
  walk_at "nx"
  refine seq_cut fun R2 hR2 => ?_
  walk_at "rd"
  refine iter_pre prT W.pairs (fun A σ H' => (∃ v4 v5 v6 : Option T,σ = [some (W.enc),some (.int beat),some (.tup (D.map sT)),some (.ref p),v4,v5,v6,none,none,none,none,none,none,none]) /\ H' = H /\ Box (∀ a ∈ A,(fun p : Str × Str × Str => decide (fD D p.2.1 = fD D p.2.2) != decide (p.1 = ("with" : Str))) a = false)) ⟨⟨_,_,_,rfl⟩,rfl,⟨fun _ h => (nomatch h)⟩⟩ ?_ ?_
  rotate_left
  ·
   rintro A ⟨wd,x,y⟩ B σ H' N e ⟨⟨v4,v5,v6,rfl⟩,rfl,ha⟩ hN
   have hm:=hpp.out (wd,x,y) (by rw [e]; simp)
   have l1:=dN_look (f:=fD D) (hd2.out _ hm.2.1)
   have l2:=dN_look (f:=fD D) (hd2.out _ hm.2.2)
   have hw : wd = ("with" : Str) \/ wd = ("apart" : Str):=hm.1
   dsimp only at l1 l2
   have ed : decide (((fD D x : Nat) : Int) = ((fD D y : Nat) : Int)) = decide (fD D x = fD D y):=by rw [decide_eq_decide]; omega
   have nx : Box ((decide (fD D x = fD D y) != decide (wd = ("with" : Str))) = false -> N [some (W.enc),some (.int beat),some (.tup (D.map sT)),some (.ref p),some (.str x),some (.str y),some (.str wd),none,none,none,none,none,none,none] H'):=⟨fun c => hN _ _ ⟨⟨_,_,_,rfl⟩,rfl,⟨fun a h => (List.mem_append.mp h).elim (ha.out a) fun z => by rw [List.mem_singleton.mp z]; exact c⟩⟩⟩
   have rt : Box ((decide (fD D x = fD D y) != decide (wd = ("with" : Str))) = true -> Fin3 Q (.tup [.str wd,.str x,.str y]) H'):=⟨fun c => by
    have e : paiF (fD D) W.pairs = some (.tup [.str wd,.str x,.str y]):=by unfold paiF; rw [e,find_hit ha.out c]; rfl
    have:=k'.out
    rw [e] at this
    exact Fin3.of sb this⟩
   clear hN e hR2 hm ha
   refine ⟨trivial,?_⟩
   simp only [prT]
   have hw':=Box.mk hw
   clear hw
   walk_at "rd"
   refine ⟨trivial,?_⟩
   have w1 : (("apart" : Str) = ("with" : Str)) = False:=by simp; decide
   have w2 : (("with" : Str) = ("apart" : Str)) = False:=by simp; decide
   have nx2:=nx.out
   have rt2:=rt.out
   clear nx rt
   generalize decide (fD D x = fD D y) = b1 at *
   rcases hw'.out with rfl | rfl
   ·
    clear hw'
    cases b1
    ·
     walk_at "rd"
     exact ⟨by decide,rt2 (by rw [decide_eq_true rfl]; rfl)⟩
    ·
     walk_at "rd"
     exact nx2 (by rw [decide_eq_true rfl]; rfl)
   ·
    clear hw'
    cases b1
    ·
     walk_at "rd"
     exact nx2 (by rw [decide_eq_false (by rw [w1]; exact id)]; rfl)
    ·
     walk_at "rd"
     exact ⟨by decide,rt2 (by rw [decide_eq_false (by rw [w1]; exact id)]; rfl)⟩
  rintro σ H' ⟨⟨v4,v5,v6,rfl⟩,rfl,ha⟩
  refine ⟨trivial,?_⟩
  have e : paiF (fD D) W.pairs = none:=by unfold paiF; rw [find_no ha.out]; rfl
  rw [e] at k'
  replace k' : Box (Q (oE ((kinG (kdOf W.tasks) W.row 0 D).or (beaG (ld W.tasks) beat 0 D))) H3):=k'
  clear e ha hpp hd2 g1
  walk_at "nx"
  refine seq_cut fun R3 hR3 => ?_
  walk_at "rd"
  intro pa hpa
  walk_at "nx"
  refine seq_cut fun R4 hR4 => ?_
  walk_at "rd"
  intro pb hpb
  have nab : pa ≠ pb:=ne3n up3_same hpb
  have sb2 : Sub3 H3 (up3 (up3 H' pa (.dct [])) pb (.dct [])):=(sb.trans (Sub3.new hpa)).trans (Sub3.new hpb)
  have ga : up3 (up3 H' pa (.dct [])) pb (.dct []) pa = some (.dct (iN [])):=by rw [up3_ne nab]; exact up3_same
  have gb : up3 (up3 H' pa (.dct [])) pb (.dct []) pb = some (.dct (kN [])):=up3_same
  have fa : H3 pa = none:=sub_none sb hpa
  have fb : H3 pb = none:=sub_none (sb.trans (Sub3.new hpa)) hpb
  generalize up3 (up3 H' pa (.dct [])) pb (.dct []) = H5 at *
  clear hpa hpb sb
  walk_at "nx"
  refine seq_cut fun R5 hR5 => ?_
  walk_at "rd"
  refine iter_pre tkT W.tasks (fun A σ H => (∃ v9 v10 v11 : Option T,σ = [some (W.enc),some (.int beat),some (.tup (D.map sT)),some (.ref p),v4,v5,v6,some (.ref pa),some (.ref pb),v9,v10,v11,none,none]) /\ H pa = some (.dct (iN A)) /\ H pb = some (.dct (kN A)) /\ Sub3 H3 H) ⟨⟨_,_,_,rfl⟩,ga,gb,sb2⟩ ?_ ?_
  rotate_left
  ·
   rintro A t B σ H N e ⟨⟨v9,v10,v11,rfl⟩,ga,gb,sb⟩ hN
   have hx : t.1 ∉ A.map (·.1):=fun h => by
    have:=hnd'.out
    rw [e,List.map_append,List.nodup_append] at this
    exact this.2.2 _ h _ (by rw [List.map_cons]; exact List.mem_cons_self) rfl
   have p1:=iN_new hx
   have p2:=kN_new hx
   have hlA : A.length < 8:=by
    have:=congrArg List.length e
    simp only [List.length_append,List.length_cons] at this
    omega
   have hl2:=iN_len A
   have hl3:=kN_len A
   have hN':=Box.mk hN
   have nba : pb ≠ pa:=Ne.symm nab
   unfold sT at p2
   clear hN e k' hR5 hx
   refine ⟨trivial,?_⟩
   simp only [tkT,sT]
   walk_at "rd"
   refine ⟨trivial,by omega,?_⟩
   walk_at "rd"
   refine ⟨by omega,?_⟩
   refine hN'.out _ _ ⟨⟨_,_,_,rfl⟩,by rw [up3_ne nab,up3_same],up3_same,fun b o e => ?_⟩
   rw [up3_ne (ne3n e fb),up3_ne (ne3n e fa)]
   exact sb b o e
  rintro σ H ⟨⟨v9,v10,v11,rfl⟩,ga,gb,sb⟩
  refine ⟨trivial,?_⟩
  clear sb2
  have hnd2:=hnd'
  walk_at "nx"
  refine seq_cut fun R6 hR6 => ?_
  walk_at "rd"
  refine ⟨by first | trivial | omega,by omega,by omega,?_⟩
  refine iter_rng D (fun A σ H' => (∃ v12 v13 : Option T,σ = [some (W.enc),some (.int beat),some (.tup (D.map sT)),some (.ref p),v4,v5,v6,some (.ref pa),some (.ref pb),v9,v10,v11,v12,v13]) /\ H' = H /\ Box (∀ (j : Nat) (s' : List Str),A[j]? = some s' -> ∀ n ∈ s',okK (kdOf W.tasks n) (W.row.getD (0 + j) "") = true)) ⟨⟨_,_,rfl⟩,rfl,⟨fun j s' h => by simp at h⟩⟩ ?_ ?_
  rotate_left
  ·
   rintro A s B σ H' N e ⟨⟨v12,v13,rfl⟩,rfl,ha⟩ hN
   have hA : A.length < W.row.length:=by
    have:=congrArg List.length e
    simp only [List.length_append,List.length_cons] at this
    omega
   have hs : Box (∀ n ∈ s,n ∈ W.tasks.map (·.1)):=⟨(hin.out s (by rw [e]; simp)).2⟩
   have x1:=getD_at hA
   have x2 : atI (D.map sT) (A.length : Int) = some (.tup (s.map T.str)):=by rw [e]; exact at_pre sT
   have hN':=Box.mk hN
   have e':=Box.mk e
   clear hN e hR6
   refine ⟨trivial,?_⟩
   walk_at "rd"
   refine iter_pre T.str s (fun C σ H2 => (∃ v13 : Option T,σ = [some (W.enc),some (.int beat),some (.tup (D.map sT)),some (.ref p),v4,v5,v6,some (.ref pa),some (.ref pb),v9,v10,v11,some (.int (A.length : Int)),v13]) /\ H2 = H' /\ Box (∀ n ∈ C,okK (kdOf W.tasks n) (W.row.getD A.length "") = true)) ⟨⟨_,rfl⟩,rfl,⟨fun _ h => (nomatch h)⟩⟩ ?_ ?_
   ·
    rintro σ H2 ⟨⟨v5',rfl⟩,rfl,hc⟩
    refine ⟨trivial,hN'.out _ _ ⟨⟨_,_,rfl⟩,rfl,⟨fun j s' hj n hn => ?_⟩⟩⟩
    rw [Nat.zero_add]
    rcases Nat.lt_or_ge j A.length with h | h
    ·
     rw [List.getElem?_append_left h] at hj
     have:=ha.out j s' hj n hn
     rwa [Nat.zero_add] at this
    ·
     rw [List.getElem?_append_right h] at hj
     have ej : j - A.length = 0:=by
      cases q : j - A.length with
      | zero => rfl
      | succ z => rw [q] at hj; simp at hj
     rw [ej] at hj
     simp only [List.getElem?_cons_zero,Option.some.injEq] at hj
     subst hj
     rw [show j = A.length by omega]
     exact hc.out n hn
   ·
    rintro C n E' σ H2 N2 e2 ⟨⟨v5',rfl⟩,rfl,hc⟩ hN2
    have l1:=kN_look (hs.out n (by rw [e2]; simp))
    unfold sT at l1
    have i1:=pl_strs (kdOf W.tasks n)
    have nx : Box (okK (kdOf W.tasks n) (W.row.getD A.length "") = true -> N2 [some (W.enc),some (.int beat),some (.tup (D.map sT)),some (.ref p),v4,v5,v6,some (.ref pa),some (.ref pb),v9,v10,v11,some (.int (A.length : Int)),some (.str n)] H2):=⟨fun c => hN2 _ _ ⟨⟨_,rfl⟩,rfl,⟨fun a h => (List.mem_append.mp h).elim (hc.out a) fun z => by rw [List.mem_singleton.mp z]; exact c⟩⟩⟩
    have rt : Box (okK (kdOf W.tasks n) (W.row.getD A.length "") = false -> Fin3 Q (.tup [.str "kind",.str n,.int (A.length : Int)]) H2):=⟨fun c => by
     have:=k'.out
     rw [e'.out,kin_hit (A:=A) (k:=0) ha.out (n:=n) (by
      rw [Nat.zero_add,e2]
      exact find_hit (fun a h => by rw [hc.out a h]; rfl) (by rw [c]; rfl)),Nat.zero_add] at this
     exact Fin3.of sb this⟩
    clear hN2 e2 hN' k' ha hc e'
    refine ⟨trivial,?_⟩
    walk_at "rd"
    by_cases c : kdOf W.tasks n = []
    ·
     rw [c]
     walk_at "rd"
     exact nx.out (by unfold okK; rw [c]; rfl)
    ·
     rw [if_pos (by rw [decide_eq_true_iff]; have:=List.length_pos_iff.mpr c; omega)]
     walk_at "rd"
     refine ⟨by first | trivial | rfl,by first | trivial | exact i1,?_⟩
     rw [memS]
     by_cases c2 : W.row.getD A.length "" ∈ kdOf W.tasks n
     ·
      rw [if_neg (by simpa using c2)]
      exact nx.out (by unfold okK; rw [decide_eq_true c2,Bool.or_true])
     ·
      rw [if_pos (by simpa using c2)]
      exact ⟨by decide,rt.out (by unfold okK; rw [decide_eq_false c2,decide_eq_false c]; rfl)⟩
  rintro σ H' ⟨⟨v12,v13,rfl⟩,rfl,ha⟩
  refine ⟨trivial,?_⟩
  rw [kin_no ha.out,show ((none : Option T).or (beaG (ld W.tasks) beat 0 D)) = beaG (smL W.tasks) beat 0 D from bea_congr fun s hs => (sm_ld hnd2.out (hin.out s hs).1 (hin.out s hs).2).symm] at k'
  clear ha gb
  walk_at "nx"
  refine seq_cut fun R7 hR7 => ?_
  walk_at "rd"
  refine ⟨by first | trivial | omega,by omega,by omega,?_⟩
  refine iter_rng D (fun A σ H => (∃ v12 : Option T,σ = [some (W.enc),some (.int beat),some (.tup (D.map sT)),some (.ref p),v4,v5,v6,some (.ref pa),some (.ref pb),v9,v10,v11,v12,v13]) /\ H pa = some (.dct (iN W.tasks)) /\ Sub3 H3 H /\ Box (∀ s' ∈ A,smL W.tasks s' <= beat)) ⟨⟨_,rfl⟩,ga,sb,⟨fun _ h => (nomatch h)⟩⟩ ?_ ?_
  ·
   rintro σ H ⟨⟨v12,rfl⟩,ga,sb,hc⟩
   refine ⟨trivial,?_⟩
   walk_at "nx"
   walk_at "rd"
   have:=k'.out
   rw [bea_no hc.out] at this
   exact Fin3.of sb this
  ·
   rintro A s B σ H N e ⟨⟨v12,rfl⟩,ga,sb,hc⟩ hN
   have hs : Box (∀ n ∈ s,n ∈ W.tasks.map (·.1)):=⟨(hin.out s (by rw [e]; simp)).2⟩
   have ls : s.length <= 1000:=by
    have:=congrArg (fun x => x.flatten.length) e
    simp only [flat_pre,List.length_append] at this
    omega
   have x2 : atI (D.map sT) (A.length : Int) = some (.tup (s.map T.str)):=by rw [e]; exact at_pre sT
   have hN':=Box.mk hN
   have e':=Box.mk e
   clear hN e hR7
   refine ⟨trivial,?_⟩
   walk_at "rd"
   walk_at "cp"
   refine cIter_pure T.str (fun n => .int (lnOf W.tasks n)) s [some (.ref pa)] trivial (by omega) (fun n hn Q' hq => ?_) (fun pc hpc => ?_)
   ·
    have l1:=iN_look (hs.out n hn)
    have hq':=Box.mk hq
    clear hq hN' k'
    walk_at "rd"
    exact hq'.out
   have ei : ints3 (s.map (fun n => T.int (lnOf W.tasks n))) = some (s.map (lnOf W.tasks)):=by
    rw [<- ints3_map,List.map_map]; rfl
   rw [ei,q_oq]
   have sb2:=sb.trans (Sub3.new (o:=.lst (s.map (fun n => T.int (lnOf W.tasks n)))) hpc)
   have ga2 : up3 H pc (.lst (s.map (fun n => T.int (lnOf W.tasks n)))) pa = some (.dct (iN W.tasks)):=by rw [up3_ne (ne3n ga hpc)]; exact ga
   generalize up3 H pc (.lst (s.map (fun n => T.int (lnOf W.tasks n)))) = H6 at *
   walk_at "rd"
   rw [show (s.map (lnOf W.tasks)).sum = smL W.tasks s from rfl]
   by_cases c : smL W.tasks s > beat
   ·
    rw [if_pos (by simpa using c)]
    refine ⟨by decide,?_⟩
    have:=k'.out
    rw [e'.out,bea_hit hc.out c,Nat.zero_add] at this
    exact Fin3.of sb2 this
   ·
    rw [if_neg (by simpa using c)]
    exact hN'.out _ _ ⟨⟨_,rfl⟩,ga2,sb2,⟨fun a h => (List.mem_append.mp h).elim (hc.out a) fun z => by rw [List.mem_singleton.mp z]; omega⟩⟩
abbrev N_fault : List Str:=["_law_works_here","_law_beat_here","_law_dealing_here","_law_fault_here"]
theorem sc_fault : FnScope N_fault ["_law_works_here","_law_beat_here","_law_dealing_here"] (defScope (top 37)):=sc_mk
theorem ok_fault {f : Addr} {fd : FuncData} (g : G3 K mg "_law_fault" (top 37) ["_law_works_here","_law_beat_here","_law_dealing_here"] f fd) (B : Bl mg) (F_names_fault : Cal P w K mg base 1 "_law_names_fault" (top 34) ["_law_names_here","_law_flat_here"] spNm) (F_flat : Cal P w K mg base 1 "_law_flat" (top 33) ["_law_dealing_here"] spTx) (F_laid_fault : Cal P w K mg base 2 "_law_laid_fault" (top 36) ["_law_works_here","_law_beat_here","_law_dealing_here"] spLa) : Cal P w K mg base 3 "_law_fault" (top 37) ["_law_works_here","_law_beat_here","_law_dealing_here"] spFo:=by
 refine ⟨f,fd,g,?_⟩
 refine fn3 g.fn sc_fault (fun ts H Q h => ?_) (fun cdv A outer s H E ts H3 Q hr h => ?_)
 ·
  obtain ⟨W,b,D,rfl,_⟩:=h; rfl
 ·
  have hu30:=Room.u30 hr
  have hu31:=Room.u31 hr
  have hu1:=Room.u1 hr
  obtain ⟨W,beat,D,rfl,hW,hl,hD,k⟩:=h
  refine ⟨_,(ss3_cons (s3_if (t3_cmp o3_gt (e3_callB c3_len rfl B.len_ bt_len (a3_cons (v3 2) a3_nil)) (e3_callB c3_len rfl B.len_ bt_len (a3_cons (e3_ix ix3 (v3 0) c3_int) a3_nil))) (ss3_one (s3_ret (e3_tup (a3_cons c3_str (a3_cons (e3_callB c3_len rfl B.len_ bt_len (a3_cons (v3 2) a3_nil)) a3_nil))))) ss3_nil)
    (ss3_cons (s3_set (i:=3) sc_fault.nd (e3_cl F_names_fault hr rfl (a3_cons (e3_comp rfl (compSc (n0:=(defScope (top 37)).names) (N:=N_fault) (N':=["_law_name","_law_length","_law_kinds_here"]) (nt:=3) (cap:=[]) rfl rfl (by decide +kernel)) (i3_tup (e3_ix ix3 (v3 0) c3_int)) (fun cl pins s H C0 fp => ⟨(g3_tup (n:=3) rfl (gs3_cons (g3_name (i:=0) (show List.Nodup [("_law_name" : Str),("_law_length" : Str),("_law_kinds_here" : Str)] by decide +kernel)) (gs3_cons (g3_name (i:=1) (show List.Nodup [("_law_name" : Str),("_law_length" : Str),("_law_kinds_here" : Str)] by decide +kernel)) (gs3_cons (g3_name (i:=2) (show List.Nodup [("_law_name" : Str),("_law_length" : Str),("_law_kinds_here" : Str)] by decide +kernel)) gs3_nil)))),if3_nil,(v3 0)⟩)) (a3_cons (e3_cl F_flat hr rfl (a3_cons (v3 2) a3_nil)) a3_nil))))
    (ss3_cons (s3_if (t3_cmp o3_is (v3 3) c3_non) (ss3_one (s3_set (i:=3) sc_fault.nd (e3_cl F_laid_fault hr rfl (a3_cons (v3 0) (a3_cons (v3 1) (a3_cons (v3 2) a3_nil)))))) ss3_nil)
    (ss3_one (s3_ret (v3 3)))))),?_⟩
  rw [show start3 N_fault [W.enc,T.int beat,T.tup (D.map sT)] = [some (W.enc),some (T.int beat),some (T.tup (D.map sT)),none] from rfl]
  have hsz : sizeLine = 16777216:=rfl
  have k':=Box.mk k
  clear k
  have hW':=Box.mk hW
  have t8 : W.tasks.length <= 8:=hW.t8
  clear hW
  replace k' : Box (Q (oE (((numF W.row D).or (namF (W.tasks.map (·.1)) D.flatten)).or (laiF W beat D))) H3):=k'
  have hdk : Box (numF W.row D = none -> namF (W.tasks.map (·.1)) D.flatten = none -> Dok W D):=⟨fun h1 h2 => Dok.of (by show (numF W.row D).or (namF (W.tasks.map (·.1)) D.flatten) = none; rw [h1,h2]; rfl)⟩
  refine seq_cut fun R0 hR0 => ?_
  have hR0':=Box.mk hR0
  clear hR0
  walk_at "rd"
  by_cases c : D.length > W.row.length
  ·
   rw [if_pos (by rw [decide_eq_true_iff]; omega)]
   walk_at "rd"
   refine ⟨by decide,Fin3.of Sub3.refl ?_⟩
   have e : numF W.row D = some (.tup [.str "stands",.int (D.length : Int)]):=by unfold numF; rw [if_pos c]
   have:=k'.out
   rw [e] at this
   exact this
  ·
   rw [if_neg (by rw [decide_eq_true_iff]; omega)]
   have e : numF W.row D = none:=by unfold numF; rw [if_neg c]
   rw [e] at k'
   replace k' : Box (Q (oE ((namF (W.tasks.map (·.1)) D.flatten).or (laiF W beat D))) H3):=k'
   have hdk2 : Box (namF (W.tasks.map (·.1)) D.flatten = none -> Dok W D):=⟨hdk.out e⟩
   clear e hdk
   obtain ⟨⟨hR0⟩⟩:=hR0'
   subst hR0
   try dsimp only
   generalize hns : W.tasks.map (·.1) = ns at *
   have ln : ns.length <= 8:=by rw [<- hns,List.length_map]; exact t8
   have hns':=Box.mk hns
   clear hns
   refine seq_cut fun R1 hR1 => ?_
   have hR1':=Box.mk hR1
   clear hR1
   walk_at "rd"
   walk_at "cp"
   refine cIter_f3 (fun t : Str × Int × List Str => .str t.1) (fun t => .int t.2.1) (fun t => .tup (t.2.2.map T.str)) (fun t => T.str t.1) (fun _ => true) W.tasks [] trivial (by omega) (fun t ht Q' hq => hq) (fun t ht _ Q' hq => ?_) (fun pn hpn => ?_)
   ·
    clear k' hdk2 hR1'
    walk_at "rd"
    try exact hq
   rw [List.filter_eq_self.mpr (fun _ _ => rfl)]
   have en : W.tasks.map (fun t => T.str t.1) = ns.map T.str:=by rw [<- hns'.out,List.map_map]; rfl
   rw [en]
   clear en
   refine ⟨D,rfl,hl,fun q hq => ?_⟩
   have npq : pn ≠ q:=ne3n up3_same hq
   refine ⟨pn,q,ns,D.flatten,rfl,by rw [up3_ne npq,up3_same],up3_same,by omega,hl,?_⟩
   have sb : Sub3 H3 (up3 (up3 H3 pn (.lst (ns.map T.str))) q (.lst (D.flatten.map T.str))):=(Sub3.new hpn).trans (Sub3.new hq)
   generalize up3 (up3 H3 pn (.lst (ns.map T.str))) q (.lst (D.flatten.map T.str)) = H4 at sb ⊢
   clear hpn hq npq
   obtain ⟨⟨hR1⟩⟩:=hR1'
   subst hR1
   try dsimp only
   cases e : namF ns D.flatten with
   | none =>
    rw [e] at k'
    replace k' : Box (Q (oE (laiF W beat D)) H3):=k'
    have hd:=Box.mk (hdk2.out e)
    clear hdk2 e
    rw [show oE none = T.non from rfl]
    walk_at "rd"
    exact ⟨W,beat,D,rfl,hW'.out,hl,hd.out,Fin3.of sb k'.out⟩
   | some t =>
    rw [e] at k'
    obtain ⟨_,x,r,et⟩:=isF_nam ns D.flatten t e
    subst et
    clear e hdk2
    rw [show oE (some (T.tup (x :: r))) = T.tup (x :: r) from rfl]
    walk_at "rd"
    exact Fin3.of sb k'.out
def spLaw : Sp3:=fun ts H Q => ∃ (a : Addr) (ns : List Int),ts = [.ref a] /\ H a = some (.rol (ns.map T.int)) /\ ns.length <= 63 /\ ∀ H',Q (.bl true) H'
abbrev N_law : List Str:=["_law_script","_law_deck","_law_big","_law_works_here","_law_dealing_here","_law_stands","_law_turn_here","_law_beat_here","_law_last","_law_short"]
theorem sc_law : FnScope N_law ["_law_script"] (defScope (top 45)):=sc_mk
theorem ok_law {f : Addr} {fd : FuncData} (g : G3 K mg "law" (top 45) ["_law_script"] f fd) (B : Bl mg) (F_numbers : Cal P w K mg base 1 "_law_numbers" (top 20) ["_law_script"] spNum) (F_works : Cal P w K mg base 5 "_law_works" (top 31) ["_law_deck","_law_least","_law_most","_law_stands"] spWr) (F_dealing : Cal P w K mg base 3 "_law_dealing" (top 39) ["_law_deck","_law_works_here"] spDe) (F_draw : Cal P w K mg base 1 "_law_draw" (top 21) ["_law_deck","_law_most"] spDr) (F_spoiled : Cal P w K mg base 3 "_law_spoiled" (top 44) ["_law_deck","_law_works_here","_law_stands"] spSp) (F_loads : Cal P w K mg base 1 "_law_loads" (top 40) ["_law_works_here","_law_dealing_here"] spLd) (F_beat : Cal P w K mg base 3 "_law_beat" (top 32) ["_law_deck","_law_works_here"] spBt) (F_fault : Cal P w K mg base 3 "_law_fault" (top 37) ["_law_works_here","_law_beat_here","_law_dealing_here"] spFo) (F_fault_of : Cal P w K mg base 4 "fault_of" (top 18) ["works","beat","dealing"] spFo) (F_same : Cal P w K mg base 2 "_law_same" (top 41) ["_law_one","_law_other"] (spSame 2)) : FnOk3 P w K mg base 6 f fd ["_law_script"] spLaw:=by
 refine fn3 g.fn sc_law (fun ts H Q h => ?_) (fun cdv A outer s H E ts H3 Q hr h => ?_)
 ·
  obtain ⟨a,ns,rfl,_⟩:=h; rfl
 ·
  have hu30:=Room.u30 hr
  have hu31:=Room.u31 hr
  have hu1:=Room.u1 hr
  obtain ⟨a,ns,rfl,ha,h63,k⟩:=h
  refine ⟨_,(ss3_cons (s3_set (i:=1) sc_law.nd (e3_cl F_numbers hr rfl (a3_cons (v3 0) a3_nil)))
    (ss3_cons (s3_set (i:=2) sc_law.nd (e3_callTy c3_int' rfl B.int_ bt_int (a3_cons (e3_and (e3_cmp (o3_neR hu30) (v3 0) (e3_lst a3_nil)) (e3_one (e3_cmp (o3_eq hu30) (e3_op o3_mod (e3_op o3_fdiv (e3_ix ix3 (v3 0) c3_int) c3_int) c3_int) c3_int))) a3_nil)))
    (ss3_cons (s3_set (i:=3) sc_law.nd (e3_cl F_works hr rfl (a3_cons (v3 1) (a3_cons (e3_ix ix3 (e3_lst (a3_cons c3_int (a3_cons c3_int a3_nil))) (v3 2)) (a3_cons (e3_ix ix3 (e3_lst (a3_cons c3_int (a3_cons c3_int a3_nil))) (v3 2)) (a3_cons c3_int a3_nil))))))
    (ss3_cons (s3_set (i:=4) sc_law.nd (e3_cl F_dealing hr rfl (a3_cons (v3 1) (a3_cons (v3 3) a3_nil))))
    (ss3_cons (s3_set (i:=5) sc_law.nd (e3_callTy c3_list rfl B.list_ bt_list (a3_cons (v3 4) a3_nil)))
    (ss3_cons (s3_for PassesOwn.never rfl (i3_range1 rfl B.range_ (a3_cons (e3_cl F_draw hr rfl (a3_cons (v3 1) (a3_cons c3_int a3_nil))) a3_nil)) (g3_name (i:=6) sc_law.nd) (ss3_one (s3_set (i:=5) sc_law.nd (e3_cl F_spoiled hr rfl (a3_cons (v3 1) (a3_cons (v3 3) (a3_cons (v3 5) a3_nil)))))))
    (ss3_cons (s3_set (i:=7) sc_law.nd (e3_ix ix3 (e3_lst (a3_cons (e3_callB (c3_max1 rfl) rfl B.max_ bt_max (a3_cons (e3_cl F_loads hr rfl (a3_cons (v3 3) (a3_cons (v3 4) a3_nil))) a3_nil)) (a3_cons (e3_cl F_beat hr rfl (a3_cons (v3 1) (a3_cons (v3 3) a3_nil))) a3_nil))) (e3_cl F_draw hr rfl (a3_cons (v3 1) (a3_cons c3_int a3_nil)))))
    (ss3_cons (s3_if (t3_not (t3_val (e3_cl F_same hr rfl (a3_cons (e3_cl F_fault hr rfl (a3_cons (v3 3) (a3_cons (v3 7) (a3_cons (e3_callTy c3_tuple rfl B.tuple_ bt_tuple (a3_cons (v3 5) a3_nil)) a3_nil)))) (a3_cons (e3_cl F_fault_of hr rfl (a3_cons (v3 3) (a3_cons (v3 7) (a3_cons (e3_callTy c3_tuple rfl B.tuple_ bt_tuple (a3_cons (v3 5) a3_nil)) a3_nil)))) a3_nil))))) (ss3_one (s3_ret c3_bl)) ss3_nil)
    (ss3_cons (s3_set (i:=8) sc_law.nd (e3_ix ix3 (e3_ix ix3 (e3_ix ix3 (v3 3) c3_int) (e3_neg c3_int)) c3_int))
    (ss3_cons (s3_set (i:=9) sc_law.nd (e3_callTy c3_tuple rfl B.tuple_ bt_tuple (a3_cons (e3_comp rfl (compSc (n0:=(defScope (top 45)).names) (N:=N_law) (N':=["_law_stand","_law_last"]) (nt:=1) (cap:=[8]) rfl rfl (by decide +kernel)) (i3_tup (v3 4)) (fun cl pins s H C0 fp => ⟨(g3_name (i:=0) (show List.Nodup [("_law_stand" : Str),("_law_last" : Str)] by decide +kernel)),if3_nil,(e3_callTy c3_tuple rfl B.tuple_ bt_tuple (a3_cons (e3_comp rfl (compSc2 (n00:=(defScope (top 45)).names) (N:=["_law_stand","_law_last"]) (N':=["_law_name","_law_last"]) (nt:=1) (cap:=[1]) rfl rfl rfl (by decide +kernel)) (i3_tup (v3 0)) (fun cl pins s H C0 fp => ⟨(g3_name (i:=0) (show List.Nodup [("_law_name" : Str),("_law_last" : Str)] by decide +kernel)),(if3_one (t3_cmp (o3_ne hu30) (v3 0) (v3 1))),(v3 0)⟩)) a3_nil))⟩)) a3_nil)))
    (ss3_cons (s3_if (PW3.pt (w3_and (t3_cmp (o3_eq hu30) (v3 2) c3_int) (w3_and1 (t3_cmp (o3_ne hu30) (e3_cl F_fault_of hr rfl (a3_cons (v3 3) (a3_cons (v3 7) (a3_cons (v3 9) a3_nil)))) (e3_tup (a3_cons c3_str (a3_cons (v3 8) a3_nil))))))) (ss3_one (s3_ret c3_bl)) ss3_nil)
    (ss3_one (s3_ret (e3_cl F_same hr rfl (a3_cons (e3_cl F_fault hr rfl (a3_cons (v3 3) (a3_cons (v3 7) (a3_cons (v3 4) a3_nil)))) (a3_cons (e3_cl F_fault_of hr rfl (a3_cons (v3 3) (a3_cons (v3 7) (a3_cons (v3 4) a3_nil)))) a3_nil)))))))))))))))),?_⟩
  rw [show start3 N_law [T.ref a] = [some (T.ref a),none,none,none,none,none,none,none,none,none] from rfl]
  have hsz : sizeLine = 16777216:=rfl
  have k':=Box.mk k
  clear k
  refine seq_cut fun R0 hR0 => ?_
  walk_at "rd"
  refine ⟨a,ns,rfl,ha,h63,fun d H4 hsub hd hC => ?_⟩
  have w0 : Wt d H4 H4 []:=⟨hC,Kep.refl,(fun _ h => nomatch h)⟩
  have ga:=hsub a _ ha
  clear hC hsub hd ha
  walk_at "nx"
  refine seq_cut fun R1 hR1 => ?_
  have key : ∀ (b : Bool) (H5 : Hp3),Wt d H4 H5 [] -> R1 { nx:=fun _ H' => Fin3 Q .non H',rt:=Fin3 Q } [some (.ref a),some (.ref d),some (.int (if b = true then 1 else 0)),none,none,none,none,none,none,none] H5:=by
   intro b H5 w1
   clear ga
   walk_at "nx"
   have x1 : atI [T.int 1,T.int 7] (if b = true then 1 else 0) = some (T.int (if b then 7 else 1)):=by cases b <;> rfl
   have x2 : atI [T.int 6,T.int 2] (if b = true then 1 else 0) = some (T.int (if b then 2 else 6)):=by cases b <;> rfl
   refine seq_cut fun R2 hR2 => ?_
   walk_at "rd"
   refine ⟨by decide,fun p1 hp1 => ⟨by decide,fun p2 hp2 => ?_⟩⟩
   have w2:=((w1.new (o:=.lst [T.int 1,T.int 7]) hp1).new (o:=.lst [T.int 6,T.int 2]) hp2).tl.tl
   generalize up3 (up3 H5 p1 _) p2 _ = H6 at w2 ⊢
   clear w1 hp1 hp2 x1 x2
   refine ⟨d,_,_,4,rfl,by cases b <;> decide,by cases b <;> decide,by cases b <;> decide,by decide,by decide,w2.cl,fun W H7 hW _ w5 hD => ?_⟩
   have w3:=w2.drw hD
   clear w2 hD
   walk_at "nx"
   refine seq_cut fun R3 hR3 => ?_
   walk_at "rd"
   refine ⟨d,W,rfl,hW,w3.cl,fun xs f m H8 hp m1 mr hf hD => ?_⟩
   have w4:=w3.drw hD
   clear w3 hD
   walk_at "nx"
   have h8 : m <= 8:=Nat.le_trans mr hW.r8
   have hlen:=dealt_len xs f m
   have hin : Box (∀ ys ∈ dealt xs f m,ys.length <= 8 /\ ∀ n ∈ ys,n ∈ W.tasks.map (·.1)):=⟨fun ys hy => by
    have q:=dealt_in hp hW.nd hy
    refine ⟨Nat.le_trans q.1 ?_,q.2.2⟩
    rw [hp.length_eq,List.length_map]
    exact hW.t8⟩
   obtain ⟨tl,t,etk⟩ : ∃ tl t,W.tasks = tl ++ [t]:=by
    have h1:=hW.t1
    refine ⟨W.tasks.dropLast,W.tasks.getLast (by intro e; rw [e] at h1; simp at h1),(List.dropLast_concat_getLast _).symm⟩
   have hlost : Box (∀ beat,flt W beat ((dealt xs f m).map fun s => s.filter fun n => !decide (n = t.1)) = some (.tup [.str "lost",.str t.1])):=⟨fun beat => lost_last hW hp mr hf etk beat⟩
   have d1 : 1 <= (dealt xs f m).length:=by omega
   have d8 : (dealt xs f m).length <= 8:=by omega
   have etk':=Box.mk etk
   clear etk hlen
   generalize dealt xs f m = D0 at *
   clear hp hf m1 mr xs f
   have hW':=Box.mk hW
   clear hW w5
   refine seq_cut fun R4 hR4 => ?_
   walk_at "rd"
   intro p3 hp3
   have w5:=w4.new (o:=.lst (D0.map sT)) hp3
   generalize up3 H8 p3 _ = H9 at w5 ⊢
   clear w4 hp3
   walk_at "nx"
   refine seq_cut fun R5 hR5 => ?_
   walk_at "rd"
   refine ⟨d,5,rfl,by decide,w5.cl,fun n H10 n0 n1 hD => ?_⟩
   have w6:=w5.drw hD
   clear w5 hD
   obtain ⟨n,rfl⟩:=Int.eq_ofNat_of_zero_le n0
   have n5 : n < 5:=by omega
   clear n0 n1
   walk_at "rd"
   refine ⟨by first | trivial | omega,by omega,by omega,?_⟩
   rw [rng_0]
   refine iter_pre (fun (k : Nat) => T.int (k : Int)) (List.range n) (fun A σ H => ∃ (q : Addr) (D : List (List Str)) (v : Option T),σ = [some (.ref a),some (.ref d),some (.int (if b = true then 1 else 0)),some W.enc,some (.tup (D0.map sT)),some (.ref q),v,none,none,none] /\ Wt d H4 H [(q,.lst (D.map sT))] /\ Bd (8 + A.length) D) ⟨p3,D0,_,rfl,w6,⟨d1,by omega,fun s hs => by have:=(hin.out s hs).1; exact Nat.le_trans this (Nat.le_add_right _ _)⟩⟩ ?_ ?_
   rotate_left
   ·
    rintro A k B σ H N e ⟨q,D,v,rfl,w,hB⟩ hN
    have hA : A.length < 5:=by
     have:=congrArg List.length e
     simp only [List.length_append,List.length_cons,List.length_range] at this
     omega
    have hN':=Box.mk hN
    clear hN e hR5 w6 k'
    refine ⟨trivial,?_⟩
    walk_at "rd"
    refine ⟨d,q,W,D,8 + A.length,rfl,(w.at' _ List.mem_cons_self).2,hW'.out,w.cl,w.hd,hB,by omega,fun D' H1 p hB' hD hp => ?_⟩
    exact hN'.out _ _ ⟨p,D',_,rfl,(w.drw hD).tl.new hp,by rw [List.length_append,List.length_singleton]; exact hB'⟩
   rintro σ H ⟨q,D,v,rfl,w7,hB⟩
   rw [List.length_range] at hB
   refine ⟨trivial,?_⟩
   clear w6
   walk_at "nx"
   have f1 : D.flatten.length <= 1000:=by
    have h1:=flat_le hB.ln
    have h2:=hB.hi
    have : D.length * (8 + n) <= 9 * 12:=Nat.mul_le_mul h2 (by omega)
    omega
   have f2 : D.length <= 1000:=by have:=hB.hi; omega
   have f3 : D0.flatten.length <= 1000:=by
    have h1:=flat_le (L:=8) fun s hs => (hin.out s hs).1
    have : D0.length * 8 <= 8 * 8:=Nat.mul_le_mul d8 (Nat.le_refl _)
    omega
   clear hB
   refine seq_cut fun R6 hR6 => ?_
   walk_at "rd"
   refine ⟨W,D0,rfl,hW'.out,d8,hin.out,fun p4 hp4 => ?_⟩
   have w8:=(w7.new (o:=.lst ((D0.map (smL W.tasks)).map T.int)) hp4).tl
   have g4 : up3 H p4 (.lst ((D0.map (smL W.tasks)).map T.int)) p4 = some (.lst ((D0.map (smL W.tasks)).map T.int)):=up3_same
   generalize up3 H p4 _ = H11 at w8 g4 ⊢
   clear w7 hp4
   have e1:=ints3_map (D0.map (smL W.tasks))
   walk_at "rd"
   refine ⟨by intro e; rw [<- List.length_eq_zero_iff,List.length_map] at e; omega,fun mx _ _ => ?_⟩
   clear g4 e1
   refine ⟨d,W,rfl,hW'.out,w8.cl,fun bt H12 hD => ?_⟩
   have w9:=w8.drw hD
   clear w8 hD
   refine ⟨by decide,fun p5 hp5 => ?_⟩
   have w10:=w9.new (o:=.lst [T.int mx,T.int bt]) hp5
   generalize up3 H12 p5 _ = H13 at w10 ⊢
   clear w9 hp5
   refine ⟨d,2,rfl,by decide,w10.cl,fun z H14 z0 z1 hD => ?_⟩
   have w11:=w10.drw hD
   clear w10 hD
   have g5:=w11.hd
   obtain ⟨beat,_,hb'⟩:=at_ex ([mx,bt] : List Int) z (by omega) (by show z < 2; omega)
   have hb2 : atI [T.int mx,T.int bt] z = some (T.int beat):=by
    have:=at_map T.int ([mx,bt] : List Int) z
    rw [hb'] at this
    exact this
   walk_at "rd"
   clear g5 hb2 hb' z0 z1
   walk_at "nx"
   have g6:=w11.tl.hd
   refine seq_cut fun R7 hR7 => ?_
   walk_at "rd"
   refine ⟨W,beat,D,rfl,hW'.out,f1,f2,?_⟩
   walk_at "rd"
   refine ⟨W,beat,D,rfl,hW'.out,f1,f2,?_⟩
   refine ⟨_,by decide,rfl,(isF_flt W beat D).shn,?_⟩
   walk_at "rd"
   walk_at "nx"
   have x3 : atI (W.tasks.map tkT) (-1) = some (.tup [.str t.1,.int t.2.1,sT t.2.2]):=by rw [etk'.out,List.map_append]; exact at_last
   have ew : W.enc = .tup [.tup (W.tasks.map tkT),.tup (W.orders.map orT),.tup (W.pairs.map prT),sT W.row]:=rfl
   refine seq_cut fun R8 hR8 => ?_
   walk_at "rd"
   rw [show T.tup [.tup (W.tasks.map tkT),.tup (W.orders.map orT),.tup (W.pairs.map prT),sT W.row] = W.enc from rfl]
   clear x3 ew etk' g6
   walk_at "nx"
   have w12 : Wt d H4 H14 []:=w11.tl.tl
   clear w11 f1 f2
   generalize t.1 = last at *
   refine seq_cut fun R9 hR9 => ?_
   walk_at "rd"
   walk_at "cp"
   have hR9':=Box.mk hR9
   clear hR9
   refine cIter_pre sT D0 (fun A ys σ H' => ∃ v : Option T,σ = [v,some (.str last)] /\ ys = (A.map fun s => s.filter fun n => !decide (n = last)).map sT) ⟨_,rfl,rfl⟩ ?_ ?_
   rotate_left
   ·
    rintro A s B ys σ H' N e ⟨v,rfl,rfl⟩ hN
    have hA : A.length < 8:=by
     have:=congrArg List.length e
     simp only [List.length_append,List.length_cons] at this
     omega
    have ls : s.length <= 8:=(hin.out s (by rw [e]; simp)).1
    have hN':=Box.mk hN
    clear hN e k' hR9' w12
    refine ⟨trivial,?_⟩
    simp only [sT]
    walk_at "rd"
    walk_at "cp"
    refine cIter_filt T.str T.str (fun n => !decide (n = last)) s [some (.str last)] trivial (by omega) (fun n hn Q' hq => ?_) (fun n hn _ Q' hq => ?_) (fun p hp => ?_)
    ·
     clear hN'
     walk_at "rd"
    ·
     clear hN'
     walk_at "rd"
    ·
     try simp only [List.length_map]
     walk_at "rd"
     exact ⟨by omega,hN'.out _ _ _ ⟨_,rfl,by simp only [List.map_append,List.map_cons,List.map_nil,sT]⟩⟩
   rintro ys σ H' ⟨v,rfl,rfl⟩
   refine ⟨trivial,by rw [List.length_map,List.length_map]; omega,fun p hp => ?_⟩
   have f4 : (D0.map fun s => s.filter fun n => !decide (n = last)).flatten.length <= 1000:=by
    have h1:=flat_le (L:=8) (D:=D0.map fun s => s.filter fun n => !decide (n = last)) fun s hs => by
     obtain ⟨s',h',rfl⟩:=List.mem_map.mp hs
     exact Nat.le_trans (List.length_filter_le _ _) (hin.out s' h').1
    have h2 : (D0.map fun s => s.filter fun n => !decide (n = last)).length = D0.length:=List.length_map _
    have : D0.length * 8 <= 8 * 8:=Nat.mul_le_mul d8 (Nat.le_refl _)
    rw [h2] at h1
    omega
   have f5 : (D0.map fun s => s.filter fun n => !decide (n = last)).length <= 1000:=by rw [List.length_map]; omega
   have hl2:=Box.mk (hlost.out beat)
   generalize (D0.map fun s => s.filter fun n => !decide (n = last)) = D2 at *
   clear hlost hin w12
   obtain ⟨⟨hR9⟩⟩:=hR9'
   subst hR9
   walk_at "rd"
   generalize up3 H' p _ = H15
   clear hp
   have fin : Fin3 Q (T.bl true) H15:=Fin3.of Sub3.refl (k'.out _)
   have lst : spFo [W.enc,T.int beat,T.tup (D0.map sT)] H15 fun x H1 => spFo [W.enc,T.int beat,T.tup (D0.map sT)] H1 fun x_1 H1 => spSame 2 [x,x_1] H1 (Fin3 Q) :=
    ⟨W,beat,D0,rfl,hW'.out,f3,by omega,W,beat,D0,rfl,hW'.out,f3,by omega,_,by decide,rfl,(isF_flt W beat D0).shn,fin⟩
   split
   ·
    refine ⟨W,beat,D2,rfl,hW'.out,f4,f5,by decide,?_⟩
    rw [hl2.out,show oE (some (T.tup [T.str "lost",T.str last])) = T.tup [T.str "lost",T.str last] from rfl,q_eqT]
    refine ⟨rfl,rfl,?_⟩
    rw [decide_eq_true rfl,q_bq]
    exact lst
   ·
    exact lst
  have key':=Box.mk key
  clear key hR1 k'
  walk_at "rd"
  refine ⟨by decide,fun p hp => ?_⟩
  have nap : a ≠ p:=ne3n ga hp
  have pa:=all_int ns
  have w1:=(w0.new (o:=.lst []) hp).tl
  have g1 : up3 H4 p (.lst []) p = some (.lst []):=up3_same
  have g2 : up3 H4 p (.lst []) a = some (.rol (ns.map T.int)):=by rw [up3_ne nap]; exact ga
  generalize up3 H4 p (.lst []) = H5 at w1 g1 g2 ⊢
  clear w0 hp ga
  walk_at "rd"
  refine ⟨by first | trivial | exact nap,by first | trivial | exact pa,by first | trivial | rfl,?_⟩
  cases ns with
  | nil =>
   rw [if_neg (by simp)]
   exact key'.out false H5 w1
  | cons z r =>
   rw [if_pos (by simp)]
   have key2:=Box.mk (key'.out (decide (z / 2 % 8 = 5)) H5 w1)
   clear key' g1 g2 pa
   rw [List.map_cons]
   walk_at "rd"
   exact ⟨⟨by decide,by decide⟩,by decide,key2.out⟩
end
end M
namespace M
open PySem PySem.Spec PyProof.Rows L2 L3
noncomputable def noList (K : PySem.W.Frag) : Bool:=K.all fun p => !(p.2.cls == .type "list")
theorem mem_look {K : PySem.W.Frag} {a : Addr} {o : Obj} (e : K.lookup a = some o) : (a,o) ∈ K:=by
 induction K with
 | nil => cases e
 | cons p r ih =>
  obtain ⟨b,u⟩:=p
  rw [List.lookup_cons] at e
  split at e
  ·
   rename_i h
   rw [eq_of_beq h,Option.some.inj e]
   exact List.mem_cons_self
  ·
   exact List.mem_cons_of_mem _ (ih e)
theorem noList_no {K : PySem.W.Frag} (h : noList K = true) {a : Addr} {o : Obj} (e : K.lookup a = some o) : o.cls ≠ .type "list":=fun z => by
 have hm : (a,o) ∈ K:=mem_look e
 have q:=List.all_eq_true.mp h (a,o) hm
 rw [z] at q
 simp at q
theorem uc {n : Nat} {us : List Value} (h : us.length = n + 1) : ∃ (a : Value) (r : List Value),us = a :: r /\ r.length = n:=by
 cases us with
 | nil => exact nomatch h
 | cons a r => exact ⟨a,r,rfl,Nat.succ.inj h⟩
theorem uz {us : List Value} (h : us.length = 0) : us = []:=List.eq_nil_of_length_eq_zero h
theorem ub1 {fd : FuncData} {x0 : Str} (h : ∀ a0 : Value,bindArgs fd ⟨[a0],[]⟩ = pure ([x0].zip [a0])) (us : List Value) (e : us.length = 1) : bindArgs fd ⟨us,[]⟩ = pure ([x0].zip us):=by
 obtain ⟨a0,r0,q0,e0⟩:=uc e
 rw [q0,uz e0]; exact h a0
theorem ub2 {fd : FuncData} {x0 x1 : Str} (h : ∀ a0 a1 : Value,bindArgs fd ⟨[a0,a1],[]⟩ = pure ([x0,x1].zip [a0,a1])) (us : List Value) (e : us.length = 2) : bindArgs fd ⟨us,[]⟩ = pure ([x0,x1].zip us):=by
 obtain ⟨a0,r0,q0,e0⟩:=uc e
 obtain ⟨a1,r1,q1,e1⟩:=uc e0
 rw [q0,q1,uz e1]; exact h a0 a1
theorem ub3 {fd : FuncData} {x0 x1 x2 : Str} (h : ∀ a0 a1 a2 : Value,bindArgs fd ⟨[a0,a1,a2],[]⟩ = pure ([x0,x1,x2].zip [a0,a1,a2])) (us : List Value) (e : us.length = 3) : bindArgs fd ⟨us,[]⟩ = pure ([x0,x1,x2].zip us):=by
 obtain ⟨a0,r0,q0,e0⟩:=uc e
 obtain ⟨a1,r1,q1,e1⟩:=uc e0
 obtain ⟨a2,r2,q2,e2⟩:=uc e1
 rw [q0,q1,q2,uz e2]; exact h a0 a1 a2
theorem ub4 {fd : FuncData} {x0 x1 x2 x3 : Str} (h : ∀ a0 a1 a2 a3 : Value,bindArgs fd ⟨[a0,a1,a2,a3],[]⟩ = pure ([x0,x1,x2,x3].zip [a0,a1,a2,a3])) (us : List Value) (e : us.length = 4) : bindArgs fd ⟨us,[]⟩ = pure ([x0,x1,x2,x3].zip us):=by
 obtain ⟨a0,r0,q0,e0⟩:=uc e
 obtain ⟨a1,r1,q1,e1⟩:=uc e0
 obtain ⟨a2,r2,q2,e2⟩:=uc e1
 obtain ⟨a3,r3,q3,e3⟩:=uc e2
 rw [q0,q1,q2,q3,uz e3]; exact h a0 a1 a2 a3
theorem g_mk {K : PySem.W.Frag} {h : Heap} {mg : Str -> Option Value} {x : Str} {st : Stmt} {ps : List Str} {f : Addr} {oc : Value} {od an : Option Addr} {osl : Array (Option Value)} {kV doc pm cdv ct : Value} (X : K.In h) (G : h.Ns mainGlobals mg)
  (a : PySem.W.nsIn K mainGlobals x = some (some (.ref f))) (l : K.lookup f = some ⟨oc,od,.func (PySem.W.fnOf x x (defArgs st) (defBody st) (defScope st) .none kV doc pm an cdv ct),osl⟩) (c : PySem.W.codeIn K cdv x = true) (k : PySem.W.keepIn K (.ref f) = true)
  (hb : ∀ (kV doc pm : Value) (an : Option Addr) (cdv ct : Value) (us : List Value),us.length = ps.length -> bindArgs (PySem.W.fnOf x x (defArgs st) (defBody st) (defScope st) .none kV doc pm an cdv ct) ⟨us,[]⟩ = pure (ps.zip us)) :
  G3 K mg x st ps f (PySem.W.fnOf x x (defArgs st) (defBody st) (defScope st) .none kV doc pm an cdv ct) :=
 have F:=fun_mk (st:=st) l c k
 ⟨F,F.binds hb,PySem.W.mg_of X G a⟩
noncomputable def qv : Program:={ PySem.Challenge.pw_stationrow_k31_first_faults with main:={ PySem.Challenge.pw_stationrow_k31_first_faults.main with body:=([1,3,5,6,7,8,9,10,11,12,13,14,15,16,17,18,20,21,22,23,24,25,26,27,28,29,30,31,32,33,34,35,36,37,38,39,40,41,42,43,44,45] : List Nat).map top } }
noncomputable def en (P : Params) (n : Str) (t : Nat) (v : Value) : DictEntry:=⟨PyData.keyHash P n,.str n t,v⟩
noncomputable def cO (n : Str) (c : Nat) (b : Bool) (a j l k : Nat) : Obj:=⟨.type "code",none,.fields #[.str n a,.str n (a + 1),.str "/claim/cut.py" (a + 2),.int l 0,.int k 0,.int 0 0,.int 0 0,.int 3 0,.ref (c - (bif b then 5 else 3)),.bool true,.int 181 0,.ref (c - (bif b then 4 else 2)),.none,bif b then .ref (c - 3) else .none,bif b then .ref (c - 2) else .none,.ref (c - 1),.int j 0,.int l 0,.str "/claim/cut.py" (j + 1)],#[]⟩
noncomputable def fO (i : Nat) (n m : Str) (t c : Nat) : Obj:=⟨.type "function",none,.func (PySem.W.fnOf n n (defArgs (top i)) (defBody (top i)) (defScope (top i)) .none .none .none (.str m t) none (.ref c) .none),#[]⟩
theorem g_of (i : Nat) (ps : List Str) (x : Str) (f : Addr) (m : Str) (t c : Nat) {K : PySem.W.Frag} {h : Heap} {mg : Str -> Option Value} (X : K.In h) (G : h.Ns mainGlobals mg)
  (hb : ∀ (kV doc pm : Value) (an : Option Addr) (cdv ct : Value) (us : List Value),us.length = ps.length -> bindArgs (PySem.W.fnOf x x (defArgs (top i)) (defBody (top i)) (defScope (top i)) .none kV doc pm an cdv ct) ⟨us,[]⟩ = pure (ps.zip us))
  (a : PySem.W.nsIn K mainGlobals x = some (some (.ref f)):=by kernel_rfl) (l : K.lookup f = some (fO i x m t c):=by kernel_rfl) (e : PySem.W.codeIn K (.ref c) x = true:=by kernel_rfl) (k : PySem.W.keepIn K (.ref f) = true:=by kernel_rfl) :
  G3 K mg x (top i) ps f (PySem.W.fnOf x x (defArgs (top i)) (defBody (top i)) (defScope (top i)) .none .none .none (.str m t) none (.ref c) .none) :=
 g_mk X G a l e k hb
noncomputable def posOf : Stmt -> Pos -> Pos
 | .FunctionDef _ _ _ _ _ _ _ _ _ p,_ => p
 | _,p => p
noncomputable def dv : DefRec:=⟨"law",defArgs (top 45),defBody (top 45),defScope (top 45),posOf (top 45) default⟩
noncomputable def fx (i : Nat) (n m : Str) (t c : Nat) (b : Bool) (a j l k : Nat) : (Params -> DictEntry) × PySem.W.Frag:=(fun P => en P n (j + 2) (.ref (c + 1)),[(c,cO n c b a j l k),(c + 1,fO i n m t c)])
noncomputable def TB : List ((Params -> DictEntry) × PySem.W.Frag):=[fx 1 "may_be_done" "stationrow.checks" 187 20 true 189 194 2 2,
 fx 3 "names_of" "stationrow.texts" 197 25 false 199 202 5 1,
 fx 5 "load_of" "stationrow.dealings" 205 30 false 207 210 8 2,
 fx 6 "loads_of" "stationrow.dealings" 205 35 false 213 216 10 2,
 fx 7 "texts_of" "stationrow.dealings" 205 42 true 219 225 12 1,
 fx 8 "stands_of" "stationrow.dealings" 205 49 true 228 236 17 1,
 fx 9 "number_fault" "stationrow.dealings" 205 56 true 239 244 23 2,
 fx 10 "strange_fault" "stationrow.dealings" 205 63 true 247 254 27 2,
 fx 11 "twice_fault" "stationrow.dealings" 205 70 true 257 263 33 1,
 fx 12 "lost_fault" "stationrow.dealings" 205 77 true 266 273 40 2,
 fx 13 "order_fault" "stationrow.dealings" 205 84 true 276 284 46 2,
 fx 14 "pair_fault" "stationrow.dealings" 205 91 true 287 296 52 2,
 fx 15 "kind_fault" "stationrow.dealings" 205 96 false 299 302 58 2,
 fx 16 "beat_fault" "stationrow.dealings" 205 103 true 305 313 65 3,
 fx 17 "tasks_fault" "stationrow.dealings" 205 110 true 316 321 70 2,
 fx 18 "fault_of" "stationrow.dealings" 205 117 true 324 330 72 3,
 fx 20 "_law_numbers" "law_stationrow_k31_first_faults" 333 124 true 335 344 75 1,
 fx 21 "_law_draw" "law_stationrow_k31_first_faults" 333 131 true 347 352 90 2,
 fx 22 "_law_great" "law_stationrow_k31_first_faults" 333 138 true 355 362 94 2,
 fx 23 "_law_free_name" "law_stationrow_k31_first_faults" 333 145 true 365 377 99 3,
 fx 24 "_law_names" "law_stationrow_k31_first_faults" 333 150 false 380 383 111 2,
 fx 25 "_law_turn" "law_stationrow_k31_first_faults" 333 157 true 386 393 122 2,
 fx 26 "_law_lengths" "law_stationrow_k31_first_faults" 333 162 false 396 399 128 2,
 fx 27 "_law_chained" "law_stationrow_k31_first_faults" 333 167 false 402 405 134 2,
 fx 28 "_law_pairs" "law_stationrow_k31_first_faults" 333 172 false 408 411 141 4,
 fx 29 "_law_some_kinds" "law_stationrow_k31_first_faults" 333 177 false 414 417 157 3,
 fx 30 "_law_kinds" "law_stationrow_k31_first_faults" 333 182 false 420 423 163 4,
 fx 31 "_law_works" "law_stationrow_k31_first_faults" 333 187 false 426 429 178 4,
 fx 32 "_law_beat" "law_stationrow_k31_first_faults" 333 192 false 432 435 196 2,
 fx 33 "_law_flat" "law_stationrow_k31_first_faults" 333 199 true 438 444 202 1,
 fx 34 "_law_names_fault" "law_stationrow_k31_first_faults" 333 206 true 447 455 207 2,
 fx 35 "_law_at" "law_stationrow_k31_first_faults" 333 213 true 458 465 218 1,
 fx 36 "_law_laid_fault" "law_stationrow_k31_first_faults" 333 218 false 468 471 224 3,
 fx 37 "_law_fault" "law_stationrow_k31_first_faults" 333 223 false 474 477 245 3,
 fx 38 "_law_settled" "law_stationrow_k31_first_faults" 333 230 true 480 489 252 2,
 fx 39 "_law_dealing" "law_stationrow_k31_first_faults" 333 235 false 492 495 265 2,
 fx 40 "_law_loads" "law_stationrow_k31_first_faults" 333 240 false 498 501 276 2,
 fx 41 "_law_same" "law_stationrow_k31_first_faults" 333 245 false 504 507 281 2,
 fx 42 "_law_put" "law_stationrow_k31_first_faults" 333 252 true 510 518 289 4,
 fx 43 "_law_text" "law_stationrow_k31_first_faults" 333 257 false 521 524 293 1,
 fx 44 "_law_spoiled" "law_stationrow_k31_first_faults" 333 262 false 527 530 296 3,
 fx 45 "law" "law_stationrow_k31_first_faults" 333 267 false 533 536 318 1]
noncomputable def KK (P : Params) : PySem.W.Frag:=(3,⟨.type "dict",none,.dict ([en P "__name__" 165 (.str "law_stationrow_k31_first_faults" 333),
 en P "__doc__" 166 .none,
 en P "__package__" 167 .none,
 en P "__loader__" 168 (.builtin "__main__.__loader__#opaque"),
 en P "__spec__" 169 .none,
 en P "__annotations__" 170 (.ref 6),
 en P "__builtins__" 171 (.ref 4),
 en P "__file__" 173 (.str "/claim/cut.py" 172),
 en P "__cached__" 174 .none] ++ TB.map fun r => r.1 P).toArray 51,#[]⟩) :: (TB.map fun r => r.2).flatten
noncomputable def HK : PySem.W.Hook:=PySem.W.kHook KK [3,20,21,25,26,30,31,35,36,42,43,49,50,56,57,63,64,70,71,77,78,84,85,91,92,96,97,103,104,110,111,117,118,124,125,131,132,138,139,145,146,150,151,157,158,162,163,167,168,172,173,177,178,182,183,187,188,192,193,199,200,206,207,213,214,218,219,223,224,230,231,235,236,240,241,245,246,252,253,257,258,262,263,267,268] (fun _ => by kernel_rfl)
theorem left : PySem.W.LeftO (PySem.W.OpenLaw.row PySem.Challenge.rw_stationrow_k31_first_faults).prog qv [] (fun s => PySem.W.xlAt qv [] s && PySem.W.recOk (PySem.W.RowW.records (PySem.W.OpenLaw.row PySem.Challenge.rw_stationrow_k31_first_faults).toRowW) s) (PySem.W.Hook.obs HK) (PySem.W.Hook.val HK) 2654:=by
 intro w
 kernel_rfl
theorem all_ok {l : PySem.W.OpenLaw} {w : World} {h : Heap} {mg : Str -> Option Value} {fa : Addr} (X : (KK w.params).In h) (G : h.Ns mainGlobals mg) (hfa : mg "law" = some (.ref fa)) :
  ∃ fd : FuncData,(∀ (s : Shared) (v : Value),BindsTo s fd ⟨[v],[]⟩ [("_law_script",v)]) /\ ∀ base : Heap,(KK w.params).In base -> base.Ns mainGlobals mg -> FnOk3 l.prog w (KK w.params) mg base 6 fa fd ["_law_script"] spLaw:=by
 have at_ : ∀ {n : Str} {v : Value},PySem.W.nsIn (KK w.params) mainGlobals n = some (some v) -> mg n = some v:=fun e => PySem.W.mg_of X G e
 have no_ : ∀ {n : Str},PySem.W.nsIn (KK w.params) mainGlobals n = some none -> mg n = none:=fun e => PySem.W.mg_none_of X G e
 have e:=hfa.symm.trans (at_ (v:=.ref 268) (by kernel_rfl))
 cases e
 have B : Bl mg:=⟨no_ (by kernel_rfl),no_ (by kernel_rfl),no_ (by kernel_rfl),no_ (by kernel_rfl),no_ (by kernel_rfl),no_ (by kernel_rfl),no_ (by kernel_rfl),no_ (by kernel_rfl),no_ (by kernel_rfl),no_ (by kernel_rfl),no_ (by kernel_rfl),no_ (by kernel_rfl),no_ (by kernel_rfl),no_ (by kernel_rfl),no_ (by kernel_rfl),no_ (by kernel_rfl),no_ (by kernel_rfl),no_ (by kernel_rfl),no_ (by kernel_rfl),no_ (by kernel_rfl)⟩
 have g_may_be_done:=g_of 1 ["kinds","kind"] "may_be_done" 21 "stationrow.checks" 187 20 X G fun _ _ _ _ _ _ => ub2 fun _ _ => rfl
 have g_names_of:=g_of 3 ["tasks"] "names_of" 26 "stationrow.texts" 197 25 X G fun _ _ _ _ _ _ => ub1 fun _ => rfl
 have g_load_of:=g_of 5 ["works","tasks"] "load_of" 31 "stationrow.dealings" 205 30 X G fun _ _ _ _ _ _ => ub2 fun _ _ => rfl
 have g_loads_of:=g_of 6 ["works","dealing"] "loads_of" 36 "stationrow.dealings" 205 35 X G fun _ _ _ _ _ _ => ub2 fun _ _ => rfl
 have g_texts_of:=g_of 7 ["dealing"] "texts_of" 43 "stationrow.dealings" 205 42 X G fun _ _ _ _ _ _ => ub1 fun _ => rfl
 have g_stands_of:=g_of 8 ["dealing"] "stands_of" 50 "stationrow.dealings" 205 49 X G fun _ _ _ _ _ _ => ub1 fun _ => rfl
 have g_number_fault:=g_of 9 ["works","dealing"] "number_fault" 57 "stationrow.dealings" 205 56 X G fun _ _ _ _ _ _ => ub2 fun _ _ => rfl
 have g_strange_fault:=g_of 10 ["works","dealing"] "strange_fault" 64 "stationrow.dealings" 205 63 X G fun _ _ _ _ _ _ => ub2 fun _ _ => rfl
 have g_twice_fault:=g_of 11 ["dealing"] "twice_fault" 71 "stationrow.dealings" 205 70 X G fun _ _ _ _ _ _ => ub1 fun _ => rfl
 have g_lost_fault:=g_of 12 ["works","dealing"] "lost_fault" 78 "stationrow.dealings" 205 77 X G fun _ _ _ _ _ _ => ub2 fun _ _ => rfl
 have g_order_fault:=g_of 13 ["works","dealing"] "order_fault" 85 "stationrow.dealings" 205 84 X G fun _ _ _ _ _ _ => ub2 fun _ _ => rfl
 have g_pair_fault:=g_of 14 ["works","dealing"] "pair_fault" 92 "stationrow.dealings" 205 91 X G fun _ _ _ _ _ _ => ub2 fun _ _ => rfl
 have g_kind_fault:=g_of 15 ["works","dealing"] "kind_fault" 97 "stationrow.dealings" 205 96 X G fun _ _ _ _ _ _ => ub2 fun _ _ => rfl
 have g_beat_fault:=g_of 16 ["works","beat","dealing"] "beat_fault" 104 "stationrow.dealings" 205 103 X G fun _ _ _ _ _ _ => ub3 fun _ _ _ => rfl
 have g_tasks_fault:=g_of 17 ["works","dealing"] "tasks_fault" 111 "stationrow.dealings" 205 110 X G fun _ _ _ _ _ _ => ub2 fun _ _ => rfl
 have g_fault_of:=g_of 18 ["works","beat","dealing"] "fault_of" 118 "stationrow.dealings" 205 117 X G fun _ _ _ _ _ _ => ub3 fun _ _ _ => rfl
 have g_numbers:=g_of 20 ["_law_script"] "_law_numbers" 125 "law_stationrow_k31_first_faults" 333 124 X G fun _ _ _ _ _ _ => ub1 fun _ => rfl
 have g_draw:=g_of 21 ["_law_deck","_law_most"] "_law_draw" 132 "law_stationrow_k31_first_faults" 333 131 X G fun _ _ _ _ _ _ => ub2 fun _ _ => rfl
 have g_great:=g_of 22 ["_law_deck","_law_most"] "_law_great" 139 "law_stationrow_k31_first_faults" 333 138 X G fun _ _ _ _ _ _ => ub2 fun _ _ => rfl
 have g_free_name:=g_of 23 ["_law_size","_law_number","_law_names_here"] "_law_free_name" 146 "law_stationrow_k31_first_faults" 333 145 X G fun _ _ _ _ _ _ => ub3 fun _ _ _ => rfl
 have g_names:=g_of 24 ["_law_deck","_law_many"] "_law_names" 151 "law_stationrow_k31_first_faults" 333 150 X G fun _ _ _ _ _ _ => ub2 fun _ _ => rfl
 have g_turn:=g_of 25 ["_law_deck","_law_things"] "_law_turn" 158 "law_stationrow_k31_first_faults" 333 157 X G fun _ _ _ _ _ _ => ub2 fun _ _ => rfl
 have g_lengths:=g_of 26 ["_law_deck","_law_many"] "_law_lengths" 163 "law_stationrow_k31_first_faults" 333 162 X G fun _ _ _ _ _ _ => ub2 fun _ _ => rfl
 have g_chained:=g_of 27 ["_law_many","_law_edges"] "_law_chained" 168 "law_stationrow_k31_first_faults" 333 167 X G fun _ _ _ _ _ _ => ub2 fun _ _ => rfl
 have g_pairs:=g_of 28 ["_law_deck","_law_names_here","_law_orders","_law_lots"] "_law_pairs" 173 "law_stationrow_k31_first_faults" 333 172 X G fun _ _ _ _ _ _ => ub4 fun _ _ _ _ => rfl
 have g_some_kinds:=g_of 29 ["_law_deck","_law_common","_law_names_here"] "_law_some_kinds" 178 "law_stationrow_k31_first_faults" 333 177 X G fun _ _ _ _ _ _ => ub3 fun _ _ _ => rfl
 have g_kinds:=g_of 30 ["_law_deck","_law_row","_law_names_here","_law_table"] "_law_kinds" 183 "law_stationrow_k31_first_faults" 333 182 X G fun _ _ _ _ _ _ => ub4 fun _ _ _ _ => rfl
 have g_works:=g_of 31 ["_law_deck","_law_least","_law_most","_law_stands"] "_law_works" 188 "law_stationrow_k31_first_faults" 333 187 X G fun _ _ _ _ _ _ => ub4 fun _ _ _ _ => rfl
 have g_beat:=g_of 32 ["_law_deck","_law_works_here"] "_law_beat" 193 "law_stationrow_k31_first_faults" 333 192 X G fun _ _ _ _ _ _ => ub2 fun _ _ => rfl
 have g_flat:=g_of 33 ["_law_dealing_here"] "_law_flat" 200 "law_stationrow_k31_first_faults" 333 199 X G fun _ _ _ _ _ _ => ub1 fun _ => rfl
 have g_names_fault:=g_of 34 ["_law_names_here","_law_flat_here"] "_law_names_fault" 207 "law_stationrow_k31_first_faults" 333 206 X G fun _ _ _ _ _ _ => ub2 fun _ _ => rfl
 have g_at:=g_of 35 ["_law_dealing_here"] "_law_at" 214 "law_stationrow_k31_first_faults" 333 213 X G fun _ _ _ _ _ _ => ub1 fun _ => rfl
 have g_laid_fault:=g_of 36 ["_law_works_here","_law_beat_here","_law_dealing_here"] "_law_laid_fault" 219 "law_stationrow_k31_first_faults" 333 218 X G fun _ _ _ _ _ _ => ub3 fun _ _ _ => rfl
 have g_fault:=g_of 37 ["_law_works_here","_law_beat_here","_law_dealing_here"] "_law_fault" 224 "law_stationrow_k31_first_faults" 333 223 X G fun _ _ _ _ _ _ => ub3 fun _ _ _ => rfl
 have g_settled:=g_of 38 ["_law_works_here","_law_at_here"] "_law_settled" 231 "law_stationrow_k31_first_faults" 333 230 X G fun _ _ _ _ _ _ => ub2 fun _ _ => rfl
 have g_dealing:=g_of 39 ["_law_deck","_law_works_here"] "_law_dealing" 236 "law_stationrow_k31_first_faults" 333 235 X G fun _ _ _ _ _ _ => ub2 fun _ _ => rfl
 have g_loads:=g_of 40 ["_law_works_here","_law_dealing_here"] "_law_loads" 241 "law_stationrow_k31_first_faults" 333 240 X G fun _ _ _ _ _ _ => ub2 fun _ _ => rfl
 have g_same:=g_of 41 ["_law_one","_law_other"] "_law_same" 246 "law_stationrow_k31_first_faults" 333 245 X G fun _ _ _ _ _ _ => ub2 fun _ _ => rfl
 have g_put:=g_of 42 ["_law_stands","_law_at_here","_law_task","_law_place"] "_law_put" 253 "law_stationrow_k31_first_faults" 333 252 X G fun _ _ _ _ _ _ => ub4 fun _ _ _ _ => rfl
 have g_text:=g_of 43 ["_law_deck"] "_law_text" 258 "law_stationrow_k31_first_faults" 333 257 X G fun _ _ _ _ _ _ => ub1 fun _ => rfl
 have g_spoiled:=g_of 44 ["_law_deck","_law_works_here","_law_stands"] "_law_spoiled" 263 "law_stationrow_k31_first_faults" 333 262 X G fun _ _ _ _ _ _ => ub3 fun _ _ _ => rfl
 have g_law:=g_of 45 ["_law_script"] "law" 268 "law_stationrow_k31_first_faults" 333 267 X G fun _ _ _ _ _ _ => ub1 fun _ => rfl
 refine ⟨PySem.W.fnOf "law" "law" (defArgs (top 45)) (defBody (top 45)) (defScope (top 45)) .none .none .none (.str "law_stationrow_k31_first_faults" 333) none (.ref 267) .none,fun s v => .of_eq rfl,fun base _ _ => ?_⟩
 have F_numbers:=ok_numbers (P:=l.prog) (w:=w) (base:=base) g_numbers B
 have F_draw:=ok_draw (P:=l.prog) (w:=w) (base:=base) g_draw B
 have F_great:=ok_great (P:=l.prog) (w:=w) (base:=base) g_great B F_draw
 have F_free_name:=ok_free_name (P:=l.prog) (w:=w) (base:=base) g_free_name B
 have F_names:=ok_names (P:=l.prog) (w:=w) (base:=base) g_names B F_draw F_free_name
 have F_turn:=ok_turn (P:=l.prog) (w:=w) (base:=base) g_turn B F_draw
 have F_lengths:=ok_lengths (P:=l.prog) (w:=w) (base:=base) g_lengths B F_draw F_great
 have F_chained:=ok_chained (P:=l.prog) (w:=w) (base:=base) g_chained B
 have F_pairs:=ok_pairs (P:=l.prog) (w:=w) (base:=base) g_pairs B F_turn F_draw F_chained
 have F_some_kinds:=ok_some_kinds (P:=l.prog) (w:=w) (base:=base) g_some_kinds B F_turn F_draw
 have F_kinds:=ok_kinds (P:=l.prog) (w:=w) (base:=base) g_kinds B F_draw F_some_kinds
 have F_works:=ok_works (P:=l.prog) (w:=w) (base:=base) g_works B F_names F_draw F_turn F_pairs F_kinds F_lengths
 have F_settled:=ok_settled (P:=l.prog) (w:=w) (base:=base) g_settled B
 have F_dealing:=ok_dealing (P:=l.prog) (w:=w) (base:=base) g_dealing B F_draw F_settled F_turn
 have F_loads:=ok_loads (P:=l.prog) (w:=w) (base:=base) g_loads B
 have F_load_of:=ok_load_of (P:=l.prog) (w:=w) (base:=base) g_load_of B
 have F_loads_of:=ok_loads_of (P:=l.prog) (w:=w) (base:=base) g_loads_of B F_load_of
 have F_texts_of:=ok_texts_of (P:=l.prog) (w:=w) (base:=base) g_texts_of B
 have F_stands_of:=ok_stands_of (P:=l.prog) (w:=w) (base:=base) g_stands_of B
 have F_names_of:=ok_names_of (P:=l.prog) (w:=w) (base:=base) g_names_of B
 have F_may_be_done:=ok_may_be_done (P:=l.prog) (w:=w) (base:=base) g_may_be_done B
 have F_number_fault:=ok_number_fault (P:=l.prog) (w:=w) (base:=base) g_number_fault B
 have F_strange_fault:=ok_strange_fault (P:=l.prog) (w:=w) (base:=base) g_strange_fault B F_names_of F_texts_of
 have F_twice_fault:=ok_twice_fault (P:=l.prog) (w:=w) (base:=base) g_twice_fault B F_texts_of
 have F_lost_fault:=ok_lost_fault (P:=l.prog) (w:=w) (base:=base) g_lost_fault B F_stands_of F_names_of
 have F_order_fault:=ok_order_fault (P:=l.prog) (w:=w) (base:=base) g_order_fault B F_stands_of
 have F_pair_fault:=ok_pair_fault (P:=l.prog) (w:=w) (base:=base) g_pair_fault B F_stands_of
 have F_kind_fault:=ok_kind_fault (P:=l.prog) (w:=w) (base:=base) g_kind_fault B F_may_be_done
 have F_beat_fault:=ok_beat_fault (P:=l.prog) (w:=w) (base:=base) g_beat_fault B F_loads_of
 have F_tasks_fault:=ok_tasks_fault (P:=l.prog) (w:=w) (base:=base) g_tasks_fault B F_number_fault F_strange_fault F_twice_fault F_lost_fault
 have F_fault_of:=ok_fault_of (P:=l.prog) (w:=w) (base:=base) g_fault_of B F_tasks_fault F_order_fault F_pair_fault F_kind_fault F_beat_fault
 have F_flat:=ok_flat (P:=l.prog) (w:=w) (base:=base) g_flat B
 have F_names_fault:=ok_names_fault (P:=l.prog) (w:=w) (base:=base) g_names_fault B
 have F_at:=ok_at (P:=l.prog) (w:=w) (base:=base) g_at B
 have F_laid_fault:=ok_laid_fault (P:=l.prog) (w:=w) (base:=base) g_laid_fault B F_at
 have F_fault:=ok_fault (P:=l.prog) (w:=w) (base:=base) g_fault B F_names_fault F_flat F_laid_fault
 have F_beat:=ok_beat (P:=l.prog) (w:=w) (base:=base) g_beat B F_draw F_great
 have F_put:=ok_put (P:=l.prog) (w:=w) (base:=base) g_put B
 have F_text:=ok_text (P:=l.prog) (w:=w) (base:=base) g_text B F_draw
 have F_spoiled:=ok_spoiled (P:=l.prog) (w:=w) (base:=base) g_spoiled B F_put F_draw F_text
 have S1:=ok_same (P:=l.prog) (w:=w) (base:=base) (d:=0) g_same B ⟨_,_,g_same,fn3_none fun ts H Q ⟨t,h,_⟩ => h rfl⟩
 have F_same:=ok_same (P:=l.prog) (w:=w) (base:=base) g_same B S1
 exact ok_law (P:=l.prog) (w:=w) (base:=base) g_law B F_numbers F_works F_dealing F_draw F_spoiled F_loads F_beat F_fault F_fault_of F_same
theorem walk {l : PySem.W.OpenLaw} {q : Program} {loose : List Str} {XP : (Str -> Option Value) -> Heap -> Prop} {YP : World -> Heap -> Prop} {d : DefRec} {K : Params -> PySem.W.Frag} (hn : l.most = some 63) (hdf : d.params.defaults = [])
  (hY : ∀ (w : World) (h : Heap),YP w h -> (K w.params).In h) (hNL : ∀ w : World,noList (K w.params) = true)
  (F : ∀ (w : World) (mg : Str -> Option Value) (fa : Addr) (h : Heap),(K w.params).In h -> h.Ns mainGlobals mg -> mg d.name = some (.ref fa) ->
   ∃ fd : FuncData,(∀ (s : Shared) (u : Value),BindsTo s fd ⟨[u],[]⟩ [("_law_script",u)]) /\ ∀ base : Heap,(K w.params).In base -> base.Ns mainGlobals mg -> FnOk3 l.prog w (K w.params) mg base 6 fa fd ["_law_script"] spLaw) :
  PySem.W.WalkO q loose XP YP l.row.toRowW d [] (fun f vs => PySem.call f vs):=by
 refine L2.walk_of (n:=63) (k:=6) (x:="_law_script") (CX:=fun _ => CX0) (sp:=fun w => lftSp (K w.params) spLaw) hn (by decide) hdf ⟨rfl,by decide,by decide,rfl⟩ hY F (fun w H a ns hl hO hS => ?_) fun _ _ _ _ _ z => z
 refine ⟨[.ref a],fun b => if b = a then some (.rol (ns.map T.int)) else none,fun t _ => t = .bl true,.cons .ofRef .nil,fun b o e => ?_,⟨a,ns,rfl,if_pos rfl,hl,fun _ => rfl⟩,fun v H' t H3' _ _ r q => ?_⟩
 ·
  dsimp only at e
  by_cases hb : b = a
  ·
   rw [if_pos hb] at e
   cases e
   subst hb
   rcases hS with hS | ⟨o,its,n,hk,hc,_⟩
   ·
    refine ⟨_,hS,?_⟩
    have : ∀ ms : List Int,Reps (K w.params) H (ms.map T.int) (ms.map V.int):=fun ms => by
     induction ms with
     | nil => exact .nil
     | cons m r ih => exact .cons .ofInt ih
    exact this ns
   ·
    exact absurd hc (noList_no (hNL w) hk)
  ·
   rw [if_neg hb] at e
   cases e
 ·
  subst q
  exact r.bl
end M
open PySem PySem.W PyProof.Rows
set_option maxRecDepth 100000 in
set_option maxHeartbeats 0 in
theorem PySem.Challenge.cw_stationrow_k31_first_faults_holds : PySem.Challenge.rw_stationrow_k31_first_faults.Holds := by
 refine holds_law (by kernel_rfl) fun said => ?_
 refine holds_open (d:=M.dv) (kwd:=[]) (q:=M.qv) (loose:=[]) (Xt:=fun s => xlAt M.qv [] s && recOk (RowW.records (OpenLaw.row PySem.Challenge.rw_stationrow_k31_first_faults).toRowW) s) (XP:=XL M.qv []) (Yf:=Hook.obs M.HK) (Ya:=Hook.val M.HK) (YP:=Hook.says M.HK) (N:=2654) M.left (Hook.of M.HK) (Hook.keeps M.HK) (fun s e => xl_of s (Bool.and_eq_true_iff.mp e).1) XL.keeps (by kernel_rfl) (by kernel_rfl) (by kernel_rfl) (fun s e => recFacts_of (Bool.and_eq_true_iff.mp e).2) (by kernel_rfl) (by first | assumption | kernel_rfl) (by kernel_rfl) ⟨rfl,rfl,rfl,rfl,rfl,by decide +kernel⟩ ?hw ?hc
 case hw => w_witness2
 case hc => exact M.walk (l:=PySem.Challenge.rw_stationrow_k31_first_faults) rfl rfl (fun w h Y => kIn_of Y) (fun w => by kernel_rfl) fun w mg fa h KX G hmg => M.all_ok KX G hmg
#print axioms PySem.Challenge.cw_stationrow_k31_first_faults_holds
