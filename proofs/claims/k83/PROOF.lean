import PyProof.Rows.All
import Wide.All
import OpenK.AllK
import Wide.FinOn
import Lean
import PyProof.EqAt
import PyProof.EqKinds
import PyProof.TupleCall
import PyProof.NeKinds
import PyProof.StrWalks
import PyProof.Rows.SetFrom
import PyProof.WalksMore
import KE.KIntText
import PyProof.EnumMake
import PyProof.StrLawsTight
import KE.KRevSl
import PyProof.WalkInts
import PyProof.ReprRoads
import PyProof.ReprLen
import KE.KRevIter
import PySem.Challenge.RW_stationrow_k83_least_lags
set_option Elab.async false
set_option linter.all false
set_option maxRecDepth 100000
namespace L2
open PySem PySem.Spec PyProof.Rows
abbrev Key:=Sum Int Str
noncomputable def keyIs : Key -> Value -> Bool
 | .inl k,v => Value.isInt k v
 | .inr x,v => Value.isStrOf x v
noncomputable def keyH (w : World) : Key -> Int
 | .inl k => hashInt k
 | .inr x => hashStr w x
theorem keyIs_shape : ∀ {k : Key} {v : Value},keyIs k v = true -> (∃ i t,k = Sum.inl i /\ v = Value.int i t) \/ (∃ x t,k = Sum.inr x /\ v = Value.str x t)
 | .inl i,v,h => by
  obtain ⟨t,e⟩:=Value.isInt_shape (k:=i) (v:=v) h
  exact .inl ⟨i,t,rfl,e⟩
 | .inr x,v,h => by
  obtain ⟨t,e⟩:=Value.isStrOf_shape (x:=x) (v:=v) h
  exact .inr ⟨x,t,rfl,e⟩
theorem keyIs_int (i : Int) (t : Tok) : keyIs (.inl i) (.int i t) = true:=by simp [keyIs,Value.isInt]
theorem keyIs_str (x : Str) (t : Tok) : keyIs (.inr x) (.str x t) = true:=by simp [keyIs,Value.isStrOf]
theorem key_ll (a b : Int) : decide ((Sum.inl a : Key) = Sum.inl b) = (a == b):=by
 by_cases e : a = b
 ·
  subst e; simp
 ·
  have h : ¬ (Sum.inl a : Key) = Sum.inl b:=fun q => e (Sum.inl.inj q)
  rw [decide_eq_false h]
  exact (beq_eq_false_iff_ne.mpr e).symm
theorem key_rr (a b : Str) : decide ((Sum.inr a : Key) = Sum.inr b) = decide (a = b):=by
 by_cases e : a = b
 ·
  subst e; simp
 ·
  have h : ¬ (Sum.inr a : Key) = Sum.inr b:=fun q => e (Sum.inr.inj q)
  rw [decide_eq_false h,decide_eq_false e]
theorem key_lr (a : Int) (b : Str) : decide ((Sum.inl a : Key) = Sum.inr b) = false:=decide_eq_false (fun q => nomatch q)
theorem key_rl (a : Str) (b : Int) : decide ((Sum.inr a : Key) = Sum.inl b) = false:=decide_eq_false (fun q => nomatch q)
noncomputable def mixKind (prog : Program) (w : World) : PySem.KeyKind prog w Key where
 is:=keyIs
 hash:=keyH w
 inj:=fun v a b ha hb => by
  rcases keyIs_shape ha with ⟨i,t,rfl,rfl⟩ | ⟨x,t,rfl,rfl⟩
  ·
   rcases keyIs_shape hb with ⟨j,u,rfl,e⟩ | ⟨y,u,rfl,e⟩
   ·
    injection e with e1 _; rw [e1]
   ·
    exact nomatch e
  ·
   rcases keyIs_shape hb with ⟨j,u,rfl,e⟩ | ⟨y,u,rfl,e⟩
   ·
    exact nomatch e
   ·
    injection e with e1 _; rw [e1]
 byValue:=fun k v h => by
  rcases keyIs_shape h with ⟨i,t,rfl,rfl⟩ | ⟨x,t,rfl,rfl⟩ <;> rfl
 pyHash:=fun hv h => by
  rcases keyIs_shape hv with ⟨i,t,rfl,rfl⟩ | ⟨x,t,rfl,rfl⟩
  ·
   exact wpAny_pyHash_int h
  ·
   exact wpAny_pyHash_str h
 eqBool:=fun hu hv h => by
  rcases keyIs_shape hu with ⟨i,t,rfl,rfl⟩ | ⟨x,t,rfl,rfl⟩
  ·
   rcases keyIs_shape hv with ⟨j,u,rfl,rfl⟩ | ⟨y,u,rfl,rfl⟩
   ·
    rw [key_ll] at h; exact wpAny_eqBool_int h
   ·
    rw [key_lr] at h; exact SeqAt.EqAt.int_str i t y u _ _ _ _ h
  ·
   rcases keyIs_shape hv with ⟨j,u,rfl,rfl⟩ | ⟨y,u,rfl,rfl⟩
   ·
    rw [key_rl] at h; exact SeqAt.EqAt.str_int x t j u _ _ _ _ h
   ·
    rw [key_rr] at h; exact wpAny_eqBool_str h
 «strs»:=fun k x t v h => by
  rcases keyIs_shape h with ⟨i,u,rfl,e⟩ | ⟨y,u,rfl,e⟩
  ·
   exact nomatch e
  ·
   injection e with e1 _
   subst e1
   cases v <;> rfl
theorem mixKind_int (prog : Program) (w : World) (i : Int) (t : Tok) : (mixKind prog w).is (.inl i) (.int i t) = true:=keyIs_int i t
theorem mixKind_str (prog : Program) (w : World) (x : Str) (t : Tok) : (mixKind prog w).is (.inr x) (.str x t) = true:=keyIs_str x t
end L2
namespace L2
open PySem PySem.Spec PyProof.Rows
inductive V where
 | non | bl (b : Bool) | int (i : Int) | str (x : Str) | byt (b : Array UInt8) | flt (b : UInt64) | ref (a : Addr) | ty (n : String)
 deriving DecidableEq
def RelV : V -> Value -> Prop
 | .non,u => u = Value.none
 | .bl b,u => u = Value.bool b
 | .int i,u => ∃ t,u = Value.int i t
 | .str x,u => ∃ t,u = Value.str x t
 | .byt b,u => ∃ t,u = Value.bytes b t
 | .flt b,u => ∃ t,u = Value.float b t
 | .ref a,u => u = Value.ref a
 | .ty n,u => u = Value.type n
abbrev Vals : List V -> List Value -> Prop:=Paired RelV
theorem Vals.length {xs : List V} {us : List Value} (r : Vals xs us) : xs.length = us.length:=Paired.length r
theorem Vals.get : ∀ {xs : List V} {us : List Value} {i : Nat} {x : V},Vals xs us -> xs[i]? = some x -> ∃ u,us[i]? = some u /\ RelV x u
 | _,_,_,_,.nil,e => by simp at e
 | _,_,0,_,.cons r _,e => by simp at e; subst e; exact ⟨_,rfl,r⟩
 | _,_,i + 1,x,.cons _ t,e => by
  obtain ⟨u,h1,h2⟩:=Vals.get (i:=i) (x:=x) t (by simpa using e)
  exact ⟨u,by simpa using h1,h2⟩
theorem Vals.set {x : V} {u : Value} (r : RelV x u) : ∀ {xs : List V} {us : List Value} (i : Nat),Vals xs us -> Vals (xs.set i x) (us.set i u)
 | _,_,_,.nil => .nil
 | _,_,0,.cons _ t => .cons r t
 | _,_,i + 1,.cons q t => .cons q (Vals.set r i t)
theorem Vals.append : ∀ {xs ys : List V} {us ws : List Value},Vals xs us -> Vals ys ws -> Vals (xs ++ ys) (us ++ ws)
 | _,_,_,_,.nil,s => s
 | _,_,_,_,.cons r t,s => .cons r (Vals.append t s)
theorem Vals.take : ∀ {xs : List V} {us : List Value} (n : Nat),Vals xs us -> Vals (xs.take n) (us.take n)
 | _,_,0,_ => .nil
 | _,_,_ + 1,.nil => .nil
 | _,_,n + 1,.cons r t => .cons r (Vals.take n t)
theorem Vals.drop : ∀ {xs : List V} {us : List Value} (n : Nat),Vals xs us -> Vals (xs.drop n) (us.drop n)
 | _,_,0,r => r
 | _,_,_ + 1,.nil => .nil
 | _,_,n + 1,.cons _ t => Vals.drop n t
theorem Vals.none_of : ∀ {xs : List V} {us : List Value} {i : Nat},Vals xs us -> xs[i]? = none -> us[i]? = none:=fun {xs us i} r e => by
 have h1:=r.length
 have h2 : xs.length <= i:=List.getElem?_eq_none_iff.mp e
 exact List.getElem?_eq_none_iff.mpr (by omega)
def RelO : Option V -> Option Value -> Prop
 | some v,some u => RelV v u
 | none,none => True
 | _,_ => False
def KV {κ : Type} : List (κ × V) -> List (κ × Value) -> Prop:=Paired fun (p : κ × V) (q : κ × Value) => p.1 = q.1 /\ RelV p.2 q.2
noncomputable def kV : Key -> V
 | .inl i => .int i
 | .inr x => .str x
inductive HO where
 | lst (xs : List V)
 | tup (xs : List V)
 | dK (kvs : List (Key × V)) | dT (kvs : List (List Key × V))
 | set (S : Int -> Bool) (n : Nat)
 | ins (C dx : Addr) (fs : List (Str × V))
 | own (x : Addr)
 | xd (fs : List (Str × V))
 | met (f x : Addr)
 | rng (lo hi : Int)
 | frz (o : Obj) (u : HO)
 | tbl (ps : Array Value)
 | ext (φ : Heap -> Prop)
abbrev Hp:=Addr -> Option HO
noncomputable def upd (H : Hp) (a : Addr) (o : HO) : Hp:=fun b => if b = a then some o else H b
theorem upd_same {H : Hp} {a : Addr} {o : HO} : upd H a o a = some o:=by unfold upd; rw [if_pos rfl]
theorem upd_ne {H : Hp} {a b : Addr} {o : HO} (h : b ≠ a) : upd H a o b = H b:=by unfold upd; rw [if_neg h]
theorem ne_of {H : Hp} {a b : Addr} {o u : HO} (h : H a = some o) (h' : H b = some u) (d : o ≠ u) : a ≠ b:=by
 intro e; subst e; rw [h] at h'; exact d (Option.some.inj h')
theorem ne_of_none {H : Hp} {a b : Addr} {o : HO} (h : H a = some o) (h' : H b = none) : a ≠ b:=by
 intro e; subst e; rw [h] at h'; cases h'
def Tup0 (h : Heap) (a : Addr) (items : Array Value) : Prop:=∃ o,h.get? a = some o /\ o.cls = .type "tuple" /\ ∃ n,o.data = .seq items n /\ o.dict = none
theorem Tup0.is {h : Heap} {a : Addr} {items : Array Value} (x : Tup0 h a items) : IsTup h a items:=by
 obtain ⟨o,ho,hc,n,hd,_⟩:=x
 exact ⟨o,ho,hc,n,hd⟩
theorem Tup0.new (h : Heap) (items : Array Value) : Tup0 (h.push { cls:=.type "tuple",data:=.seq items }) h.objs.size items:=⟨_,Heap.get?_push_size _ rfl,rfl,_,rfl,rfl⟩
section
variable (P : Program) (w : World)
def ObjOk (H : Hp) (h : Heap) (a : Addr) : HO -> Prop
 | .lst xs => xs.length <= sizeLine /\ ∃ (its : List Value) (n : Nat),Vals xs its /\ h.get? a = some { cls:=.type "list",data:=.seq its.toArray n }
 | .tup xs => xs.length <= sizeLine /\ ∃ its : List Value,Vals xs its /\ Tup0 h a its.toArray
 | .dK kvs => kvs.length <= sizeLine /\ (a == sysModules) = false /\ ∃ vs,KV kvs vs /\ h.DictOf (mixKind P w) a vs
 | .dT kvs => kvs.length <= sizeLine /\ (a == sysModules) = false /\ ∃ xs : List (List Key × Addr × Value),
   Paired (fun (p : List Key × V) (q : List Key × Addr × Value) => p.1 = q.1 /\ H q.2.1 = some (.tup (p.1.map kV)) /\ RelV p.2 q.2.2) kvs xs /\
   ∃ o es ep,h.get? a = some o /\ o.ExactDict /\ o.data = .dict es ep /\ es.toList = xs.map (entryOfKey (tupleKind (mixKind P w))) /\ (xs.map (·.1)).Nodup
 | .set S n => h.SetOf (intKind P w) a S n
 | .ins C dx fs => H dx = some (.own a) /\ fs.length <= 1000 /\ dx ≠ a /\ h.get? a = some (PySem.W.instObj C dx) /\
   ∃ mA,h.Ns1 dx mA /\ (∀ f,RelO (fs.lookup f) (mA f)) /\ PySem.Within mA (fs.map (·.1))
 | .own _ => ∃ o,h.get? a = some o
 | .xd fs => ∃ mA,h.Ns1 a mA /\ ∀ f,RelO (fs.lookup f) (mA f)
 | .rng lo hi => ∃ t u v,h.get? a = some { cls:=.type "range",data:=.fields #[.int lo t,.int hi u,.int 1 v] }
 | .frz o u => h.get? a = some o /\ ObjOk H h a u
 | .tbl ps => h.get? a = some { cls:=.none,data:=.fields ps }
 | .met f x => h.get? a = some (PySem.W.methodObj (.ref f) (.ref x))
 | .ext φ => φ h /\ (∃ o,h.get? a = some o) /\ ∀ h1 h2 : Heap,φ h1 -> (∀ o,h1.get? a = some o -> h2.get? a = some o) -> φ h2
def HOk (H : Hp) (h : Heap) : Prop:=∀ a o,H a = some o -> ObjOk P w H h a o
end
section
variable {P : Program} {w : World} {H H' : Hp} {h h' : Heap} {a : Addr} {o : HO}
theorem ObjOk.lt (x : ObjOk P w H h a o) : a < h.objs.size:=by
 cases o with
 | lst xs => obtain ⟨_,_,_,_,e⟩:=x; exact Heap.lt_size e
 | tup xs => obtain ⟨_,_,_,p⟩:=x; exact p.is.lt
 | dK kvs => obtain ⟨_,_,_,_,o,_,_,e,_⟩:=x; exact Heap.lt_size e
 | dT kvs => obtain ⟨_,_,_,_,o,_,_,e,_⟩:=x; exact Heap.lt_size e
 | set S n => obtain ⟨o,_,_,_,e,_⟩:=x; exact Heap.lt_size e
 | ins C dx fs => obtain ⟨_,_,_,e,_⟩:=x; exact Heap.lt_size e
 | own y => obtain ⟨_,e⟩:=x; exact Heap.lt_size e
 | xd fs => obtain ⟨_,⟨_,_,_,e,_⟩,_⟩:=x; exact Heap.lt_size e
 | rng lo hi => obtain ⟨_,_,_,e⟩:=x; exact Heap.lt_size e
 | frz ob u => obtain ⟨e,_⟩:=x; exact Heap.lt_size e
 | tbl ps => exact Heap.lt_size (show h.get? a = some _ from x)
 | met f y => exact Heap.lt_size (show h.get? a = some _ from x)
 | ext φ => obtain ⟨_,⟨_,e⟩,_⟩:=x; exact Heap.lt_size e
theorem Paired.mapP {α β : Type} {F G : α -> β -> Prop} : ∀ {l₁ : List α} {l₂ : List β},Paired F l₁ l₂ -> (∀ a b,F a b -> G a b) -> Paired G l₁ l₂
 | _,_,.nil,_ => .nil
 | _,_,.cons r t,f => .cons (f _ _ r) (Paired.mapP t f)
theorem ObjOk.stay (x : ObjOk P w H h a o) (k : ∀ b u,(b = a \/ H b = some (.own a)) -> h.get? b = some u -> h'.get? b = some u)
  (ho : ∀ b,H b = some (.own a) -> H' b = some (.own a)) (ht : ∀ b xs,H b = some (.tup xs) -> H' b = some (.tup xs)) : ObjOk P w H' h' a o:=by
 induction o with
 | lst xs => obtain ⟨z,its,n,r,e⟩:=x; exact ⟨z,its,n,r,k _ _ (.inl rfl) e⟩
 | tup xs => obtain ⟨z,its,r,ob,e,c⟩:=x; exact ⟨z,its,r,ob,k _ _ (.inl rfl) e,c⟩
 | dK kvs => obtain ⟨z,y,vs,r,ob,es,ep,e,c⟩:=x; exact ⟨z,y,vs,r,ob,es,ep,k _ _ (.inl rfl) e,c⟩
 | dT kvs =>
  obtain ⟨z,y,xs,r,ob,es,ep,e,c⟩:=x
  exact ⟨z,y,xs,Paired.mapP r fun p q z => ⟨z.1,ht _ _ z.2.1,z.2.2⟩,ob,es,ep,k _ _ (.inl rfl) e,c⟩
 | set S n => obtain ⟨ob,es,ep,t,e,c⟩:=x; exact ⟨ob,es,ep,t,k _ _ (.inl rfl) e,c⟩
 | ins C dx fs =>
  obtain ⟨d,z,ne,e,mA,⟨od,es,ep,e2,c⟩,r⟩:=x
  exact ⟨ho _ d,z,ne,k _ _ (.inl rfl) e,mA,⟨od,es,ep,k _ _ (.inr d) e2,c⟩,r⟩
 | own y => obtain ⟨ob,e⟩:=x; exact ⟨ob,k _ _ (.inl rfl) e⟩
 | xd fs => obtain ⟨mA,⟨od,es,ep,e,c⟩,r⟩:=x; exact ⟨mA,⟨od,es,ep,k _ _ (.inl rfl) e,c⟩,r⟩
 | rng lo hi => obtain ⟨t,u,v,e⟩:=x; exact ⟨t,u,v,k _ _ (.inl rfl) e⟩
 | frz ob u ih => obtain ⟨e,q⟩:=x; exact ⟨k _ _ (.inl rfl) e,ih q⟩
 | tbl ps =>
  have e : h.get? a = some { cls:=.none,data:=.fields ps }:=x
  show h'.get? a = some { cls:=.none,data:=.fields ps }
  exact k a _ (.inl rfl) e
 | met f y =>
  have e : h.get? a = some (PySem.W.methodObj (.ref f) (.ref y)):=x
  show h'.get? a = some (PySem.W.methodObj (.ref f) (.ref y))
  exact k a _ (.inl rfl) e
 | ext φ => obtain ⟨p,⟨o,e⟩,st⟩:=x; exact ⟨st _ _ p fun o q => k _ _ (.inl rfl) q,⟨o,k _ _ (.inl rfl) e⟩,st⟩
theorem HOk.lt (x : HOk P w H h) (e : H a = some o) : a < h.objs.size:=(x a o e).lt
theorem HOk.fresh (x : HOk P w H h) (e : h.objs.size <= a) : H a = none:=by
 cases q : H a with
 | none => rfl
 | some u => exact absurd (Nat.lt_of_lt_of_le (x.lt q) e) (Nat.lt_irrefl _)
theorem HOk.kept (x : HOk P w H h) (k : ∀ b u,h.get? b = some u -> h'.get? b = some u) : HOk P w H h':=fun a o e =>
 (x a o e).stay (fun b u _ q => k b u q) (fun _ q => q) fun _ _ q => q
theorem HOk.laid (x : HOk P w H h) (k : ∀ b u,h.get? b = some u -> h'.get? b = some u) (hp : h.objs.size <= a) (new : ObjOk P w (upd H a o) h' a o) : HOk P w (upd H a o) h':=fun b u e => by
 have hn:=x.fresh hp
 by_cases hb : b = a
 ·
  subst hb; rw [upd_same] at e; cases e; exact new
 ·
  rw [upd_ne hb] at e
  exact (x b u e).stay (fun c v _ q => k c v q) (fun c q => by rw [upd_ne (ne_of_none q hn)]; exact q) fun c xs q => by rw [upd_ne (ne_of_none q hn)]; exact q
end
def Rd (H : Hp) (a : Addr) (u : HO) : Prop:=H a = some u \/ ∃ o,H a = some (.frz o u)
theorem Rd.of {H : Hp} {a : Addr} {u : HO} (h : H a = some u) : Rd H a u:=.inl h
theorem Rd.ok {P : Program} {w : World} {H : Hp} {h : Heap} {a : Addr} {u : HO} (r : Rd H a u) (x : HOk P w H h) : ObjOk P w H h a u:=by
 rcases r with r | ⟨o,r⟩
 ·
  exact x a u r
 ·
  obtain ⟨_,q⟩:=x a _ r
  exact q
def Mut : Option HO -> Prop
 | some (.lst _) => True
 | some (.dK _) => True
 | some (.dT _) => True
 | some (.set _ _) => True
 | some (.ins _ _ _) => True
 | some (.ext _) => True
 | _ => False
section
variable {P : Program} {w : World} {H : Hp} {h h' : Heap} {x e : Addr} {o' : HO}
theorem HOk.write (ok : HOk P w H h) (mu : Mut (H x)) (he : e = x \/ H e = some (.own x)) (k : ∀ b u,b ≠ e -> h.get? b = some u -> h'.get? b = some u) (heo : ∃ u,h'.get? e = some u)
  (new : ObjOk P w (upd H x o') h' x o') : HOk P w (upd H x o') h':=fun b u q => by
 have nown : ∀ c y,H c = some (.own y) -> c ≠ x:=fun c y r z => by subst z; rw [r] at mu; exact mu
 have ntup : ∀ c xs,H c = some (.tup xs) -> c ≠ x:=fun c xs r z => by subst z; rw [r] at mu; exact mu
 by_cases hb : b = x
 ·
  subst hb; rw [upd_same] at q; cases q; exact new
 ·
  rw [upd_ne hb] at q
  by_cases hbe : b = e
  ·
   have q' : H b = some (.own x):=by
    rcases he with z | z
    ·
     exact absurd (hbe.trans z) hb
    ·
     rw [hbe]; exact z
   rw [q] at q'; cases q'
   obtain ⟨v,hv⟩:=heo
   exact ⟨v,by rw [hbe]; exact hv⟩
  ·
   refine (ok b u q).stay (fun c v hc r => k c v ?_ r) (fun c r => by rw [upd_ne (nown c b r)]; exact r) fun c xs r => by rw [upd_ne (ntup c xs r)]; exact r
   rcases hc with rfl | hc
   ·
    exact hbe
   ·
    rintro rfl
    rcases he with z | z
    ·
     exact nown c b hc z
    ·
     rw [hc] at z; cases z; exact hb rfl
end
structure Un (fs ex : List Addr) (H H' : Hp) (h h' : Heap) : Prop where
 keep : ∀ b o,h.get? b = some o -> H b = none -> b ∉ fs -> b ∉ ex -> h'.get? b = some o
 slot : ∀ b o,h.get? b = some o -> H b = none -> b ∈ fs -> b ∉ ex -> ∃ sl,h'.get? b = some { o with slots:=sl }
 free : ∀ b o,h.get? b = some o -> H b = none -> b ∉ ex -> H' b = none
 there : ∀ b o,h.get? b = some o -> b ∉ ex -> ∃ o',h'.get? b = some o'
 tups : ∀ b xs,H b = some (.tup xs) -> H' b = some (.tup xs)
 frzs : ∀ b o u,H b = some (.frz o u) -> H' b = some (.frz o u)
 tbls : ∀ b ps,H b = some (.tbl ps) -> ∃ more,H' b = some (.tbl (ps ++ more))
section
variable {fs fs' ex ex' : List Addr} {H H1 H2 : Hp} {h h1 h2 h' : Heap} {a x e : Addr} {o : HO}
theorem Un.any (u : Un fs ex H H1 h h1) {b : Addr} {ob : Obj} (q : h.get? b = some ob) (n : H b = none) (hx : b ∉ ex) : ∃ sl,h1.get? b = some { ob with slots:=sl }:=by
 by_cases hb : b ∈ fs
 ·
  exact u.slot b ob q n hb hx
 ·
  exact ⟨ob.slots,u.keep b ob q n hb hx⟩
theorem Un.trans (a : Un fs ex H H1 h h1) (b : Un fs ex H1 H2 h1 h2) : Un fs ex H H2 h h2 where
 keep:=fun c ob q n hc hx => b.keep c ob (a.keep c ob q n hc hx) (a.free c ob q n hx) hc hx
 slot:=fun c ob q n hc hx => by
  obtain ⟨sl,e1⟩:=a.slot c ob q n hc hx
  obtain ⟨sl',e2⟩:=b.slot c _ e1 (a.free c ob q n hx) hc hx
  exact ⟨sl',e2⟩
 free:=fun c ob q n hx => by
  obtain ⟨o',e1⟩:=a.there c ob q hx
  exact b.free c o' e1 (a.free c ob q n hx) hx
 there:=fun c ob q hx => by
  obtain ⟨o',e1⟩:=a.there c ob q hx
  exact b.there c o' e1 hx
 tups:=fun c xs q => b.tups c xs (a.tups c xs q)
 frzs:=fun c ob xs q => b.frzs c ob xs (a.frzs c ob xs q)
 tbls:=fun c ps q => by
  obtain ⟨m1,e1⟩:=a.tbls c ps q
  obtain ⟨m2,e2⟩:=b.tbls c _ e1
  exact ⟨m1 ++ m2,by rw [e2,Array.append_assoc]⟩
theorem Un.kept (k : ∀ b u,h.get? b = some u -> h'.get? b = some u) : Un fs ex H H h h' :=
 ⟨fun b ob q _ _ _ => k b ob q,fun b ob q _ _ _ => ⟨ob.slots,k b ob q⟩,fun _ _ _ n _ => n,fun b ob q _ => ⟨ob,k b ob q⟩,fun _ _ q => q,fun _ _ _ q => q,fun _ ps q => ⟨#[],by rw [q]; simp⟩⟩
theorem Un.refl : Un fs ex H H h h:=Un.kept fun _ _ q => q
theorem Un.laid (k : ∀ b u,h.get? b = some u -> h'.get? b = some u) (hp : h.objs.size <= a) (hn : H a = none) : Un fs ex H (upd H a o) h h' where
 keep:=fun b u q _ _ _ => k b u q
 slot:=fun b u q _ _ _ => ⟨u.slots,k b u q⟩
 free:=fun b u q n _ => by rw [upd_ne (Nat.ne_of_lt (Nat.lt_of_lt_of_le (Heap.lt_size q) hp))]; exact n
 there:=fun b u q _ => ⟨u,k b u q⟩
 tups:=fun b xs q => by rw [upd_ne (ne_of_none q hn)]; exact q
 frzs:=fun b u xs q => by rw [upd_ne (ne_of_none q hn)]; exact q
 tbls:=fun b ps q => ⟨#[],by rw [upd_ne (ne_of_none q hn),q]; simp⟩
theorem Un.write (mu : Mut (H x)) (he : e = x \/ H e = some (.own x)) (k : ∀ b u,b ≠ e -> h.get? b = some u -> h'.get? b = some u) (heo : ∃ u,h'.get? e = some u) : Un fs ex H (upd H x o) h h':=by
 have hx : ∀ b,H b = none -> b ≠ x:=fun b n z => by subst z; rw [n] at mu; exact mu
 have hb : ∀ b,H b = none -> b ≠ e:=fun b n z => by
  subst z
  rcases he with r | r
  ·
   exact hx b n r
  ·
   rw [n] at r; cases r
 have hm : ∀ b u,H b = some u -> ¬ Mut (some u) -> b ≠ x:=fun b u q nm z => by subst z; rw [q] at mu; exact nm mu
 refine ⟨fun b u q n _ _ => k b u (hb b n) q,fun b u q n _ _ => ⟨u.slots,k b u (hb b n) q⟩,fun b u q n _ => by rw [upd_ne (hx b n)]; exact n,fun b u q _ => ?_,
  fun b xs q => by rw [upd_ne (hm b _ q fun z => z)]; exact q,fun b u xs q => by rw [upd_ne (hm b _ q fun z => z)]; exact q,fun b ps q => ⟨#[],by rw [upd_ne (hm b _ q fun z => z),q]; simp⟩⟩
 by_cases hbe : b = e
 ·
  subst hbe; exact heo
 ·
  exact ⟨u,k b u hbe q⟩
theorem Un.mono (u : Un fs ex H H1 h h1) (hs : ∀ b ∈ fs,b ∈ fs') (hx : ∀ b ∈ ex,b ∈ ex') : Un fs' ex' H H1 h h1 :=
 ⟨fun b ob q n hb he => u.keep b ob q n (fun z => hb (hs b z)) fun z => he (hx b z),fun _ _ q n _ he => u.any q n fun z => he (hx _ z),fun b ob q n he => u.free b ob q n fun z => he (hx b z),fun b ob q he => u.there b ob q fun z => he (hx b z),u.tups,u.frzs,u.tbls⟩
end
noncomputable def trk (h : Heap) (H : Hp) : List Addr:=(List.range h.objs.size).filter fun a => (H a).isSome
noncomputable def hidT (h : Heap) (H : Hp) : Heap:=PySem.W.hideAll h (trk h H)
theorem hidT_size (h : Heap) (H : Hp) : (hidT h H).objs.size = h.objs.size:=PySem.W.hideAll_size _ _
theorem hidT_get {h : Heap} {H : Hp} {b : Addr} {o : Obj} (e : h.get? b = some o) (n : H b = none) : (hidT h H).get? b = some o :=
 PySem.W.hideAll_get _ e fun hm => by
  have q : (H b).isSome = true:=(List.mem_filter.mp hm).2
  rw [n] at q; simp at q
theorem of_hidT {h : Heap} {H : Hp} {b : Addr} {o : Obj} (e : (hidT h H).get? b = some o) : h.get? b = some o /\ H b = none:=by
 have e' : h.get? b = some o:=PySem.W.of_hideAll (trk h H) e
 refine ⟨e',?_⟩
 cases q : H b with
 | none => rfl
 | some x =>
  have hm : b ∈ trk h H:=List.mem_filter.mpr ⟨List.mem_range.mpr (Heap.lt_size e'),by simp [q]⟩
  have z : (hidT h H).get? b = none:=PySem.W.hideAll_none (trk h H) hm
  rw [z] at e; cases e
noncomputable def allNews (g h : Heap) (L : Addr) : List (Addr × Obj):=(List.range h.objs.size).filterMap fun a => if a = L \/ (g.get? a).isSome = true then none else (h.get? a).map fun o => (a,o)
noncomputable def rest (g h : Heap) (L d : Addr) : List (Addr × Obj):=(allNews g h L).filter fun p => decide (p.1 ≠ d)
end L2
namespace L2
open PySem PySem.Spec PyProof.Rows
structure Mod (K : PySem.W.Frag) (mg : Str -> Option Value) (base : Heap) : Prop where
 kin : K.In base
 glob : base.Ns mainGlobals mg
 blt : ∃ mb,base.Ns builtinsNs mb /\ ∀ x : Str,x ≠ "__name__" -> mb x = bootBuiltins x
 nolimit : base.NoLimit
structure Cx where
 prog : Program
 w : World
 K : PySem.W.Frag
 mg : Str -> Option Value
 base : Heap
 A : Around
 N : List Str
 s₀ : Shared
 H₀ : Hp
 env : Env
 outer : List Env
 stack : List Env
 ex : List Addr
 fn : Str -> Bool
 calm : Bool
 pn : List (Addr × Obj)
 xe : Value -> Shared -> Prop
noncomputable def frs (l : List Env) : List Addr:=l.filterMap (·.frame)
noncomputable abbrev Cx.fs (X : Cx) : List Addr:=frs X.outer
def Vis (sc : Scope) (x : Str) : Prop:=sc.names.lookup x = some .local \/ sc.names.lookup x = some .cell \/ sc.names.lookup x = some .free
def Loc (sc : Scope) (x : Str) : Prop:=sc.names.lookup x = some .local \/ sc.names.lookup x = some .cell
def Look (env : Env) (h : Heap) (m : Str -> Option Value) (x : Str) (u : Value) : Prop :=
 (env.kindOf x = some .local /\ m x = some u) \/ ((env.kindOf x = some .cell \/ env.kindOf x = some .free) /\ ∃ c,env.cells.lookup x = some c /\ h.IsCell c (some u))
structure Cx.Ok (X : Cx) : Prop where
 mod : Mod X.K X.mg X.base
 kind : X.env.scope.kind = .function
 glob : X.env.globals = mainGlobals
 blt : X.env.builtins = builtinsNs
 above : X.s₀.heap.objs.size <= X.env.locals
 inj : ∀ x y c,X.env.cells.lookup x = some c -> X.env.cells.lookup y = some c -> x = y
 has : ∀ x,(X.env.kindOf x = some .cell \/ X.env.kindOf x = some .free) -> ∃ c,X.env.cells.lookup x = some c
 cab : ∀ x c,X.fn x = true -> X.env.cells.lookup x = some c -> X.s₀.heap.objs.size <= c
 hd : X.calm = true -> X.A.handled = none
 frames : X.A.frames = some X.stack
 stk : X.stack = X.outer \/ (X.stack = X.env :: X.outer /\ X.env.frame = some X.env.locals)
 exf : ∀ b ∈ X.ex,b ≠ X.env.locals /\ ∀ x c,X.env.cells.lookup x = some c -> c ≠ b
 bs : ∀ b o,X.base.get? b = some o -> X.s₀.heap.get? b = some o /\ X.H₀ b = none
 bsz : X.base.objs.size <= X.s₀.heap.objs.size
 noex : ∀ b o,X.base.get? b = some o -> b ∉ X.ex
 exfs : ∀ b ∈ X.ex,b ∉ X.fs
 funs : X.s₀.heap.FunFrames X.base X.outer
 frf : ∀ b ∈ X.fs,X.H₀ b = none
structure Inv (X : Cx) (pins : List (Addr × Obj)) (σ : List (Option V)) (H : Hp) (s : Shared) : Prop where
 ok : X.Ok
 os : s.os = X.s₀.os
 bare : AllBare s.gens
 base : Un X.fs X.ex X.H₀ H X.s₀.heap s.heap
 loc : ∃ m,s.heap.Ns X.env.locals m /\ ∀ (i : Nat) (x : Str) (v : V),X.N[i]? = some x -> σ[i]? = some (some v) -> Vis X.env.scope x -> ∃ u,RelV v u /\ Look X.env s.heap m x u
 cell : ∀ x c,X.env.cells.lookup x = some c -> ∃ v,s.heap.IsCell c v
 free : H X.env.locals = none
 freeC : ∀ x c,X.env.cells.lookup x = some c -> H c = none
 pin : ∀ p ∈ X.pn ++ pins,s.heap.get? p.1 = some p.2 /\ H p.1 = none /\ p.1 ≠ X.env.locals /\ p.1 ∉ X.fs /\ ∀ v,p.2.data ≠ .cell v
 hok : HOk X.prog X.w H s.heap
 len : σ.length = X.N.length
section
variable {X : Cx} {pins : List (Addr × Obj)} {σ : List (Option V)} {H H' : Hp} {s : Shared} {h' : Heap}
theorem Cx.Ok.nofr (ok : X.Ok) {b : Addr} {o : Obj} (e : X.base.get? b = some o) : b ∉ X.fs:=fun hb => by
 have:=(ok.funs.mem hb).1
 rw [e] at this; cases this
theorem Inv.bs (I : Inv X pins σ H s) : ∀ b o,X.base.get? b = some o -> s.heap.get? b = some o /\ H b = none:=fun b o e =>
 ⟨I.base.keep b o (I.ok.bs b o e).1 (I.ok.bs b o e).2 (I.ok.nofr e) (I.ok.noex b o e),I.base.free b o (I.ok.bs b o e).1 (I.ok.bs b o e).2 (I.ok.noex b o e)⟩
theorem Inv.bk (I : Inv X pins σ H s) : ∀ b o,X.base.get? b = some o -> s.heap.get? b = some o:=fun b o e => (I.bs b o e).1
theorem Inv.mod (I : Inv X pins σ H s) : Mod X.K X.mg X.base:=I.ok.mod
theorem Inv.kIn (I : Inv X pins σ H s) : X.K.In s.heap:=I.ok.mod.kin.keeps I.bk
theorem Inv.nolimit (I : Inv X pins σ H s) : s.heap.NoLimit:=I.ok.mod.nolimit.keeps I.bk
theorem Inv.fr (I : Inv X pins σ H s) : ∃ m,Fr X.base X.env.locals s.heap m :=
 let ⟨m,hn,_⟩:=I.loc
 ⟨m,hn,I.bk,Nat.le_trans I.ok.bsz I.ok.above⟩
theorem Inv.lt (I : Inv X pins σ H s) : X.env.locals < s.heap.objs.size:=let ⟨_,hn,_⟩:=I.loc; hn.lt
theorem Inv.sz (I : Inv X pins σ H s) : X.s₀.heap.objs.size <= s.heap.objs.size:=Nat.le_trans I.ok.above (Nat.le_of_lt I.lt)
theorem Inv.nofs (I : Inv X pins σ H s) {a : Addr} (h : s.heap.objs.size <= a) : a ∉ X.fs:=fun hb => by
 obtain ⟨_,o,ho,_⟩:=I.ok.funs.mem hb
 exact absurd (Nat.lt_of_lt_of_le (Heap.lt_size ho) (Nat.le_trans I.sz h)) (Nat.lt_irrefl _)
theorem Inv.cne (I : Inv X pins σ H s) : ∀ x c,X.env.cells.lookup x = some c -> c ≠ X.env.locals:=fun x c e z => by
 obtain ⟨v,o,ho,hd⟩:=I.cell x c e
 obtain ⟨m,⟨o',es,ep,ho',hd',_⟩,_⟩:=I.loc
 rw [z,ho'] at ho; cases ho; rw [hd'] at hd; cases hd
theorem Inv.funs (I : Inv X pins σ H s) : s.heap.FunFrames X.base X.outer:=by
 have all : ∀ (l : List Env),(∀ b ∈ frs l,b ∈ X.fs) -> X.s₀.heap.FunFrames X.base l -> s.heap.FunFrames X.base l:=by
  intro l
  induction l with
  | nil => intro _ _; trivial
  | cons env r ih =>
   intro hs hl
   obtain ⟨hk,⟨L,o,hf,hn,ho,hd⟩,hr⟩:=hl
   have hL : L ∈ X.fs:=hs L (by unfold frs; rw [List.filterMap_cons,hf]; exact List.mem_cons_self)
   obtain ⟨sl,e⟩:=I.base.slot L o ho (I.ok.frf L hL) hL fun z => I.ok.exfs L z hL
   exact ⟨hk,⟨L,_,hf,hn,e,hd⟩,ih (fun b hb => hs b (by unfold frs; rw [List.filterMap_cons,hf]; exact List.mem_cons_of_mem _ hb)) hr⟩
 exact all X.outer (fun _ hb => hb) I.ok.funs
theorem Inv.stack (I : Inv X pins σ H s) : s.heap.FunFrames X.base X.stack:=by
 rcases I.ok.stk with e | ⟨e,hf⟩
 ·
  rw [e]; exact I.funs
 ·
  rw [e]
  obtain ⟨m,hn,_⟩:=I.loc
  refine .cons (by rw [I.ok.kind]; decide) hf hn ?_ I.funs
  exact Heap.get?_none_of_le (Nat.le_trans I.ok.bsz I.ok.above)
theorem Inv.stkSub (I : Inv X pins σ H s) : ∀ b ∈ frs X.stack,b ∈ X.env.locals :: X.fs:=fun b hb => by
 rcases I.ok.stk with e | ⟨e,hf⟩
 ·
  rw [e] at hb; exact List.mem_cons_of_mem _ hb
 ·
  rw [e] at hb
  unfold frs at hb
  rw [List.filterMap_cons,hf] at hb
  exact hb
theorem Inv.stkFree (I : Inv X pins σ H s) : ∀ b ∈ frs X.stack,H b = none:=fun b hb => by
 rcases List.mem_cons.mp (I.stkSub b hb) with e | hb
 ·
  rw [e]; exact I.free
 ·
  obtain ⟨_,o,ho,_⟩:=I.ok.funs.mem hb
  exact I.base.free b o ho (I.ok.frf b hb) fun z => I.ok.exfs b z hb
theorem Inv.step {g' : Array GenState} {t' : Nat} {d' : Drawn} {ch : List Addr} (I : Inv X pins σ H s)
  (hch : ∀ b ∈ ch,(b ∈ X.ex \/ X.s₀.heap.objs.size <= b) /\ b ≠ X.env.locals /\ (∀ x c,X.env.cells.lookup x = some c -> c ≠ b) /\ ∀ p ∈ X.pn ++ pins,p.1 ≠ b)
  (keep : ∀ b o,b ≠ X.env.locals -> b ∉ X.fs -> b ∉ ch -> s.heap.get? b = some o -> H b = none -> h'.get? b = some o)
  (slot : ∀ b o,b ≠ X.env.locals -> b ∈ X.fs -> b ∉ ch -> s.heap.get? b = some o -> H b = none -> ∃ sl,h'.get? b = some { o with slots:=sl }) (free : ∀ b o,b ∉ ch -> s.heap.get? b = some o -> H b = none -> H' b = none)
  (there : ∀ b o,b ∉ ch -> s.heap.get? b = some o -> ∃ o',h'.get? b = some o')
  (tups : ∀ b xs,H b = some (.tup xs) -> H' b = some (.tup xs)) (frzs : ∀ b o u,H b = some (.frz o u) -> H' b = some (.frz o u)) (tbls : ∀ b ps,H b = some (.tbl ps) -> ∃ more,H' b = some (.tbl (ps ++ more)))
  (ns : ∀ m,s.heap.Ns X.env.locals m -> h'.Ns X.env.locals m) (hok : HOk X.prog X.w H' h') (hg : AllBare g') :
  Inv X pins σ H' { s with heap:=h',gens:=g',drawn:=d',toks:=t' }:=by
 have neL : ∀ b o,X.s₀.heap.get? b = some o -> b ≠ X.env.locals:=fun b o e => Nat.ne_of_lt (Nat.lt_of_lt_of_le (Heap.lt_size e) I.ok.above)
 have neC : ∀ b o,X.s₀.heap.get? b = some o -> b ∉ X.ex -> b ∉ ch:=fun b o e hx hb => by
  rcases (hch b hb).1 with z | z
  ·
   exact hx z
  ·
   exact absurd (Nat.lt_of_lt_of_le (Heap.lt_size e) z) (Nat.lt_irrefl _)
 have cellK : ∀ x c,X.env.cells.lookup x = some c -> ∀ v,s.heap.IsCell c v -> h'.IsCell c v:=fun x c e v ⟨o,ho,hd⟩ => by
  have nch : c ∉ ch:=fun z => (hch c z).2.2.1 x c e rfl
  by_cases hc : c ∈ X.fs
  ·
   obtain ⟨sl,q⟩:=slot c o (I.cne x c e) hc nch ho (I.freeC x c e)
   exact ⟨_,q,hd⟩
  ·
   exact ⟨o,keep c o (I.cne x c e) hc nch ho (I.freeC x c e),hd⟩
 refine ⟨I.ok,I.os,hg,⟨fun b o e n hb hx => ?_,fun b o e n hb hx => ?_,fun b o e n hx => ?_,fun b o e hx => ?_,fun b xs e => tups b xs (I.base.tups b xs e),fun b o xs e => frzs b o xs (I.base.frzs b o xs e),fun b ps e => ?_⟩,?_,fun x c e => ?_,?_,fun x c e => ?_,fun p hp => ?_,hok,I.len⟩
 ·
  exact keep b o (neL b o e) hb (neC b o e hx) (I.base.keep b o e n hb hx) (I.base.free b o e n hx)
 ·
  obtain ⟨sl,e1⟩:=I.base.slot b o e n hb hx
  obtain ⟨sl',e2⟩:=slot b _ (neL b o e) hb (neC b o e hx) e1 (I.base.free b o e n hx)
  exact ⟨sl',e2⟩
 ·
  obtain ⟨o',e1⟩:=I.base.there b o e hx
  exact free b o' (neC b o e hx) e1 (I.base.free b o e n hx)
 ·
  obtain ⟨o',e1⟩:=I.base.there b o e hx
  exact there b o' (neC b o e hx) e1
 ·
  obtain ⟨m1,e1⟩:=I.base.tbls b ps e
  obtain ⟨m2,e2⟩:=tbls b _ e1
  exact ⟨m1 ++ m2,by rw [e2,Array.append_assoc]⟩
 ·
  obtain ⟨m,hn,hl⟩:=I.loc
  refine ⟨m,ns m hn,fun i x v e1 e2 e3 => ?_⟩
  obtain ⟨u,r,l⟩:=hl i x v e1 e2 e3
  refine ⟨u,r,?_⟩
  rcases l with l | ⟨k,c,e,z⟩
  ·
   exact .inl l
  ·
   exact .inr ⟨k,c,e,cellK x c e _ z⟩
 ·
  obtain ⟨v,z⟩:=I.cell x c e
  exact ⟨v,cellK x c e v z⟩
 ·
  obtain ⟨m,⟨o,_,_,ho,_⟩,_⟩:=I.loc
  exact free _ o (fun z => (hch _ z).2.1 rfl) ho I.free
 ·
  obtain ⟨v,o,ho,hd⟩:=I.cell x c e
  exact free c o (fun z => (hch c z).2.2.1 x c e rfl) ho (I.freeC x c e)
 ·
  obtain ⟨e,n,ne,nf,d⟩:=I.pin p hp
  have nch : p.1 ∉ ch:=fun z => (hch p.1 z).2.2.2 p hp rfl
  exact ⟨keep p.1 p.2 ne nf nch e n,free p.1 p.2 nch e n,ne,nf,d⟩
theorem Inv.un {t' : Nat} (I : Inv X pins σ H s) (u : Un X.fs [] H H' s.heap h') (hok : HOk X.prog X.w H' h') : Inv X pins σ H' { s with heap:=h',toks:=t' }:=by
 obtain ⟨m,⟨o,es,ep,ho,r⟩,_⟩:=id I.loc
 obtain ⟨sl,hL⟩:=u.any ho I.free (by simp)
 exact I.step (g':=s.gens) (d':=s.drawn) (ch:=[]) (fun _ z => nomatch z) (fun b o _ hb _ e n => u.keep b o e n hb (by simp)) (fun b o _ hb _ e n => u.slot b o e n hb (by simp)) (fun b o _ e n => u.free b o e n (by simp)) (fun b o _ e => u.there b o e (by simp)) u.tups u.frzs u.tbls (fun m' hm => by
  obtain ⟨o',es',ep',ho',r'⟩:=hm
  rw [ho] at ho'; cases ho'
  exact ⟨_,es',ep',hL,r'⟩) hok I.bare
theorem Inv.call {g' : Array GenState} {t' : Nat} {d' : Drawn} {ch : List Addr} (I : Inv X pins σ H s) (u : Un (frs X.stack) ch H H' s.heap h') (hok : HOk X.prog X.w H' h') (hg : AllBare g')
  (hch : ∀ b ∈ ch,(b ∈ X.ex \/ X.s₀.heap.objs.size <= b) /\ b ≠ X.env.locals /\ (∀ x c,X.env.cells.lookup x = some c -> c ≠ b) /\ ∀ p ∈ X.pn ++ pins,p.1 ≠ b) :
  Inv X pins σ H' { s with heap:=h',gens:=g',drawn:=d',toks:=t' }:=by
 obtain ⟨m,⟨o,es,ep,ho,r⟩,_⟩:=id I.loc
 obtain ⟨sl,hL⟩:=u.any ho I.free fun z => (hch _ z).2.1 rfl
 exact I.step (ch:=ch) hch (fun b o hL hb hc e n => u.keep b o e n (fun z => (List.mem_cons.mp (I.stkSub b z)).elim hL hb) hc) (fun b o _ _ hc e n => u.any e n hc) (fun b o hc e n => u.free b o e n hc) (fun b o hc e => u.there b o e hc) u.tups u.frzs u.tbls (fun m' hm => by
  obtain ⟨o',es',ep',ho',r'⟩:=hm
  rw [ho] at ho'; cases ho'
  exact ⟨_,es',ep',hL,r'⟩) hok hg
theorem Inv.turned {t' : Nat} {it : Addr} (I : Inv X pins σ H s) (k : ∀ b o,b ≠ it -> s.heap.get? b = some o -> h'.get? b = some o) (hn : H it = none) (hL : it ≠ X.env.locals)
  (h1 : it ∈ X.ex \/ X.s₀.heap.objs.size <= it) (h2 : ∀ x c,X.env.cells.lookup x = some c -> c ≠ it) (h3 : ∀ p ∈ X.pn ++ pins,p.1 ≠ it) : Inv X pins σ H { s with heap:=h',toks:=t' }:=by
 have nit : ∀ b u,H b = some u -> b ≠ it:=fun b u e z => by rw [z,hn] at e; cases e
 refine I.step (g':=s.gens) (d':=s.drawn) (ch:=[it]) (fun b hb => ?_) (fun b o _ _ hc e _ => k b o (fun z => hc (by simp [z])) e) (fun b o _ _ hc e _ => ⟨o.slots,k b o (fun z => hc (by simp [z])) e⟩) (fun _ _ _ _ n => n)
  (fun b o hc e => ⟨o,k b o (fun z => hc (by simp [z])) e⟩) (fun _ _ e => e) (fun _ _ _ e => e) (fun b ps e => ⟨#[],by rw [e]; simp⟩) (fun m hm => ?_) (fun b u e => ?_) I.bare
 ·
  have e : b = it:=by simpa using hb
  subst e
  exact ⟨h1,hL,h2,h3⟩
 ·
  obtain ⟨o,es,ep,ho,r⟩:=hm
  exact ⟨o,es,ep,k _ o (Ne.symm hL) ho,r⟩
 ·
  refine (I.hok b u e).stay (fun c v hc q => k c v ?_ q) (fun _ q => q) fun _ _ q => q
  rcases hc with z | z
  ·
   rw [z]; exact nit b u e
  ·
   exact nit c _ z
theorem Inv.tok (I : Inv X pins σ H s) (t : Nat) : Inv X pins σ H { s with toks:=t }:=I.un (h':=s.heap) (t':=t) Un.refl I.hok
theorem Inv.kept {t' : Nat} (I : Inv X pins σ H s) (k : ∀ b u,s.heap.get? b = some u -> h'.get? b = some u) : Inv X pins σ H { s with heap:=h',toks:=t' }:=I.un (Un.kept k) (I.hok.kept k)
theorem Inv.laid {a : Addr} {o : HO} {t' : Nat} (I : Inv X pins σ H s) (k : ∀ b u,s.heap.get? b = some u -> h'.get? b = some u) (hp : s.heap.objs.size <= a) (new : ObjOk X.prog X.w (upd H a o) h' a o) :
  Inv X pins σ (upd H a o) { s with heap:=h',toks:=t' }:=I.un (Un.laid k hp (I.hok.fresh hp)) (I.hok.laid k hp new)
theorem Inv.write {x e : Addr} {o : HO} {t' : Nat} (I : Inv X pins σ H s) (mu : Mut (H x)) (he : e = x \/ H e = some (.own x)) (k : ∀ b u,b ≠ e -> s.heap.get? b = some u -> h'.get? b = some u) (heo : ∃ u,h'.get? e = some u)
  (new : ObjOk X.prog X.w (upd H x o) h' x o) : Inv X pins σ (upd H x o) { s with heap:=h',toks:=t' }:=I.un (Un.write mu he k heo) (I.hok.write mu he k heo new)
theorem Inv.pins_of {pins' : List (Addr × Obj)} (I : Inv X pins σ H s) (h : ∀ p ∈ pins',s.heap.get? p.1 = some p.2 /\ H p.1 = none /\ p.1 ≠ X.env.locals /\ p.1 ∉ X.fs /\ ∀ v,p.2.data ≠ .cell v) : Inv X pins' σ H s :=
 ⟨I.ok,I.os,I.bare,I.base,I.loc,I.cell,I.free,I.freeC,fun p hp => (List.mem_append.mp hp).elim (fun z => I.pin p (List.mem_append_left _ z)) (h p),I.hok,I.len⟩
theorem nodup_ix {N : List Str} (hN : N.Nodup) {i j : Nat} {x : Str} (a : N[i]? = some x) (b : N[j]? = some x) : i = j:=by
 obtain ⟨h1,e1⟩:=List.getElem?_eq_some_iff.mp a
 obtain ⟨h2,e2⟩:=List.getElem?_eq_some_iff.mp b
 exact (List.getElem_inj hN).mp (e1.trans e2.symm)
theorem store_ok2 {M : Model} {A : Around} {E : Value -> Shared -> Prop} {i : Nat} {x : Str} {v : V} {u : Value} {Q : Unit -> Shared -> Prop} (I : Inv X pins σ H s) (hN : X.N.Nodup) (hi : X.N[i]? = some x) (hx : Loc X.env.scope x) (r : RelV v u)
  (h : ∀ s',Inv X pins (σ.set i (some v)) H s' -> (∃ a,Heap.SameBut a s.heap s'.heap /\ (a = X.env.locals \/ X.env.cells.lookup x = some a)) -> Q () s') (hf : X.fn x = true \/ X.env.scope.names.lookup x = some .local:=by first | exact .inl rfl | exact .inr rfl | assumption) : wpAny M A (storeName X.env x u) Q E s:=by
 obtain ⟨m,hn,hl⟩:=id I.loc
 have hcls : (X.env.scope.kind == .class || (X.env.scope.kind == .module && X.env.locals != X.env.globals)) = false:=by rw [I.ok.kind]; rfl
 have hiσ : i < σ.length:=by rw [I.len]; exact (List.getElem?_eq_some_iff.mp hi).1
 have cne:=I.cne
 have tracked : ∀ {a : Addr} {h' : Heap},(∃ o,s.heap.get? a = some o /\ H a = none) -> Heap.SameBut a s.heap h' -> HOk X.prog X.w H h':=fun {a h'} ha hs b ob e => by
  obtain ⟨_,_,hfree⟩:=ha
  refine (I.hok b ob e).stay (fun c w' hc q => (hs.2 c ?_).trans q) (fun _ q => q) fun _ _ q => q
  rintro rfl
  rcases hc with rfl | hc
  ·
   rw [hfree] at e; cases e
  ·
   rw [hfree] at hc; cases hc
 rcases hx with hk | hk
 ·
  refine wpAny_storeName_local hk hn (fun h' hn' hs => ?_) hcls
  obtain ⟨oL,_,_,hoL,_⟩:=id hn
  refine h _ ⟨I.ok,I.os,I.bare,⟨fun b o e n hb hx => ?_,fun b o e n hb hx => ?_,I.base.free,fun b o e hx => ?_,I.base.tups,I.base.frzs,I.base.tbls⟩,⟨_,hn',fun j y v' e1 e2 e3 => ?_⟩,fun y c e => ?_,I.free,I.freeC,fun p hp => ?_,tracked ⟨oL,hoL,I.free⟩ hs,by simpa using I.len⟩ ⟨_,hs,.inl rfl⟩
  ·
   exact (hs.2 b (Nat.ne_of_lt (Nat.lt_of_lt_of_le (Heap.lt_size e) I.ok.above))).trans (I.base.keep b o e n hb hx)
  ·
   obtain ⟨sl,e1⟩:=I.base.slot b o e n hb hx
   exact ⟨sl,(hs.2 b (Nat.ne_of_lt (Nat.lt_of_lt_of_le (Heap.lt_size e) I.ok.above))).trans e1⟩
  ·
   obtain ⟨o',e1⟩:=I.base.there b o e hx
   exact ⟨o',(hs.2 b (Nat.ne_of_lt (Nat.lt_of_lt_of_le (Heap.lt_size e) I.ok.above))).trans e1⟩
  ·
   by_cases hj : j = i
   ·
    subst hj
    rw [hi] at e1; cases e1
    rw [List.getElem?_set_self hiσ] at e2
    cases e2
    exact ⟨u,r,.inl ⟨hk,by simp⟩⟩
   ·
    rw [List.getElem?_set_ne (Ne.symm hj)] at e2
    obtain ⟨u',r',q⟩:=hl j y v' e1 e2 e3
    refine ⟨u',r',?_⟩
    rcases q with ⟨k,e⟩ | ⟨k,c,e,z⟩
    ·
     refine .inl ⟨k,?_⟩
     have : y ≠ x:=fun e => hj (nodup_ix hN e1 (e ▸ hi))
     simp [this,e]
    ·
     exact .inr ⟨k,c,e,z.sameBut hs (cne y c e)⟩
  ·
   obtain ⟨w',z⟩:=I.cell y c e
   exact ⟨w',z.sameBut hs (cne y c e)⟩
  ·
   obtain ⟨e,n,ne,nf,d⟩:=I.pin p hp
   exact ⟨(hs.2 p.1 ne).trans e,n,ne,nf,d⟩
 ·
  have hfn : X.fn x = true:=by
   rcases hf with z | z
   ·
    exact z
   ·
    rw [z] at hk; cases hk
  obtain ⟨c,hc⟩:=I.ok.has x (.inl hk)
  obtain ⟨w',z⟩:=I.cell x c hc
  refine wpAny_storeName_cell I.ok.kind hk hc z (fun h' hc' hs => ?_)
  obtain ⟨oc,hoc,hocd⟩:=id z
  refine h { s with heap:=h' } ⟨I.ok,I.os,I.bare,⟨fun b o e n hb hx => ?_,fun b o e n hb hx => ?_,I.base.free,fun b o e hx => ?_,I.base.tups,I.base.frzs,I.base.tbls⟩,⟨m,hn.sameBut hs (Ne.symm (cne x c hc)),fun j y v' e1 e2 e3 => ?_⟩,fun y c' e => ?_,I.free,I.freeC,fun p hp => ?_,tracked ⟨oc,hoc,I.freeC x c hc⟩ hs,by simpa using I.len⟩ ⟨c,hs,.inr hc⟩
  ·
   exact (hs.2 b (Nat.ne_of_lt (Nat.lt_of_lt_of_le (Heap.lt_size e) (I.ok.cab x c hfn hc)))).trans (I.base.keep b o e n hb hx)
  ·
   obtain ⟨sl,e1⟩:=I.base.slot b o e n hb hx
   exact ⟨sl,(hs.2 b (Nat.ne_of_lt (Nat.lt_of_lt_of_le (Heap.lt_size e) (I.ok.cab x c hfn hc)))).trans e1⟩
  ·
   obtain ⟨o',e1⟩:=I.base.there b o e hx
   exact ⟨o',(hs.2 b (Nat.ne_of_lt (Nat.lt_of_lt_of_le (Heap.lt_size e) (I.ok.cab x c hfn hc)))).trans e1⟩
  ·
   by_cases hj : j = i
   ·
    subst hj
    rw [hi] at e1; cases e1
    rw [List.getElem?_set_self hiσ] at e2
    cases e2
    exact ⟨u,r,.inr ⟨.inl hk,c,hc,hc'⟩⟩
   ·
    rw [List.getElem?_set_ne (Ne.symm hj)] at e2
    obtain ⟨u',r',q⟩:=hl j y v' e1 e2 e3
    refine ⟨u',r',?_⟩
    rcases q with q | ⟨k,c',e,z'⟩
    ·
     exact .inl q
    ·
     refine .inr ⟨k,c',e,z'.sameBut hs ?_⟩
     rintro rfl
     exact hj (nodup_ix hN e1 (I.ok.inj _ _ _ e hc ▸ hi))
  ·
   by_cases hcc : c' = c
   ·
    subst hcc; exact ⟨_,hc'⟩
   ·
    obtain ⟨w2,z2⟩:=I.cell y c' e
    exact ⟨w2,z2.sameBut hs hcc⟩
  ·
   obtain ⟨e,n,ne,nf,d⟩:=I.pin p hp
   refine ⟨(hs.2 p.1 ?_).trans e,n,ne,nf,d⟩
   intro q
   rw [q,hoc] at e
   have q' : oc = p.2:=Option.some.inj e
   exact d w' (by rw [<- q']; exact hocd)
theorem store_ok {M : Model} {A : Around} {E : Value -> Shared -> Prop} {i : Nat} {x : Str} {v : V} {u : Value} {Q : Unit -> Shared -> Prop} (I : Inv X pins σ H s) (hN : X.N.Nodup) (hi : X.N[i]? = some x) (hx : Loc X.env.scope x) (r : RelV v u)
  (h : ∀ s',Inv X pins (σ.set i (some v)) H s' -> Q () s') (hf : X.fn x = true \/ X.env.scope.names.lookup x = some .local:=by first | exact .inl rfl | exact .inr rfl | assumption) : wpAny M A (storeName X.env x u) Q E s :=
 store_ok2 I hN hi hx r (fun s' I' _ => h s' I') hf
theorem Inv.call' {s' : Shared} {ch : List Addr} (I : Inv X pins σ H s) (ho : s'.os = s.os) (u : Un (frs X.stack) ch H H' s.heap s'.heap) (hok : HOk X.prog X.w H' s'.heap) (hg : AllBare s'.gens)
  (hch : ∀ b ∈ ch,(b ∈ X.ex \/ X.s₀.heap.objs.size <= b) /\ b ≠ X.env.locals /\ (∀ x c,X.env.cells.lookup x = some c -> c ≠ b) /\ ∀ p ∈ X.pn ++ pins,p.1 ≠ b) : Inv X pins σ H' s':=by
 obtain ⟨h',g',d',t',o'⟩:=s'
 have e : o' = s.os:=ho
 subst e
 exact I.call (g':=g') (t':=t') (d':=d') u hok hg hch
end
abbrev XK:=Value -> Option Addr -> Hp -> Prop
abbrev St:=List (Option V)
abbrev VK:=V -> Hp -> Prop
abbrev TE:=St -> Hp -> VK -> Prop
abbrev TT:=St -> Hp -> (Bool -> Hp -> Prop) -> Prop
abbrev TA:=St -> Hp -> (List V -> Hp -> Prop) -> Prop
structure Ends where
 nx : St -> Hp -> Prop
 rt : VK
 bk : St -> Hp -> Prop:=fun _ _ => False
 ct : St -> Hp -> Prop:=fun _ _ => False
abbrev TS:=Ends -> St -> Hp -> Prop
def EP (X : Cx) (pins : List (Addr × Obj)) (σ : St) (Q : VK) (u : Value) (s' : Shared) : Prop:=∃ v H',Inv X pins σ H' s' /\ RelV v u /\ Q v H'
def TP (X : Cx) (pins : List (Addr × Obj)) (σ : St) (Q : Bool -> Hp -> Prop) (b : Bool) (s' : Shared) : Prop:=∃ H',Inv X pins σ H' s' /\ Q b H'
def AP (X : Cx) (pins : List (Addr × Obj)) (σ : St) (Q : List V -> Hp -> Prop) (us : List Value) (s' : Shared) : Prop:=∃ vs H',Inv X pins σ H' s' /\ Vals vs us /\ Q vs H'
def SP (X : Cx) (pins : List (Addr × Obj)) (D : Ends) (f : Flow) (s' : Shared) : Prop :=
 match f with
 | .next => ∃ σ' H',Inv X pins σ' H' s' /\ D.nx σ' H'
 | .brk => ∃ σ' H',Inv X pins σ' H' s' /\ D.bk σ' H'
 | .cont => ∃ σ' H',Inv X pins σ' H' s' /\ D.ct σ' H'
 | .ret u => ∃ v σ' H',Inv X pins σ' H' s' /\ RelV v u /\ D.rt v H'
def PE (X : Cx) (e : Expr) (t : TE) : Prop :=
 ∀ (pins : List (Addr × Obj)) (s : Shared) (σ : St) (H : Hp) (Q : VK),Inv X pins σ H s -> t σ H Q -> wpAny (model X.prog X.w) X.A (eval e X.env) (EP X pins σ Q) X.xe s
def PT (X : Cx) (e : Expr) (t : TT) : Prop :=
 ∀ (pins : List (Addr × Obj)) (s : Shared) (σ : St) (H : Hp) (Q : Bool -> Hp -> Prop),Inv X pins σ H s -> t σ H Q -> wpAny (model X.prog X.w) X.A (isTrue e X.env (eval e X.env)) (TP X pins σ Q) X.xe s
def PW (X : Cx) (e : Expr) (t : TT) : Prop :=
 ∀ (whole : Sem Value) (pins : List (Addr × Obj)) (s : Shared) (σ : St) (H : Hp) (Q : Bool -> Hp -> Prop),Inv X pins σ H s -> t σ H Q -> wpAny (model X.prog X.w) X.A (isTrue e X.env whole) (TP X pins σ Q) X.xe s
theorem PW.pt {X : Cx} {e : Expr} {t : TT} (h : PW X e t) : PT X e t:=h _
def PA (X : Cx) (es : List Expr) (t : TA) : Prop :=
 ∀ (pos : Pos) (pins : List (Addr × Obj)) (s : Shared) (σ : St) (H : Hp) (Q : List V -> Hp -> Prop),Inv X pins σ H s -> t σ H Q -> wpAny (model X.prog X.w) X.A (spliced (backTo pos (starEach es X.env))) (AP X pins σ Q) X.xe s
def PS (X : Cx) (st : Stmt) (t : TS) : Prop :=
 ∀ (pins : List (Addr × Obj)) (s : Shared) (σ : St) (H : Hp) (D : Ends),Inv X pins σ H s -> t D σ H -> wpAny (model X.prog X.w) X.A (exec st X.env) (SP X pins D) X.xe s
def PSs (X : Cx) (st : List Stmt) (t : TS) : Prop :=
 ∀ (pins : List (Addr × Obj)) (s : Shared) (σ : St) (H : Hp) (D : Ends),Inv X pins σ H s -> t D σ H -> wpAny (model X.prog X.w) X.A (execs st X.env) (SP X pins D) X.xe s
theorem thn {α : Type} {t : Sem α} {Q Q' : α -> Shared -> Prop} {M : Model} {A : Around} {E : Value -> Shared -> Prop} {s : Shared} (h : wpAny M A t Q E s) (hQ : ∀ a s,Q a s -> Q' a s) : wpAny M A t Q' E s:=wpAny_mono h hQ fun _ _ x => x
end L2
namespace L2
open PySem PySem.Spec PyProof.Rows
section
variable {X : Cx}
def tVar (i : Nat) : TE:=fun σ H Q => ∃ v,σ[i]? = some (some v) /\ Q v H
def tC (v : V) : TE:=fun _ H Q => Q v H
theorem pe_var {i : Nat} {x : Str} {pos : Pos} (hN : X.N[i]? = some x) (hv : Vis X.env.scope x) (hd : (x == ("__debug__" : Str)) = false:=by decide) (hcd : (x == ("__classdict__" : Str)) = false:=by decide) : PE X (.Name x pos) (tVar i):=by
 intro pins s σ H Q I h
 obtain ⟨v,e,h⟩:=h
 obtain ⟨m,hn,hl⟩:=I.loc
 obtain ⟨u,r,l⟩:=hl i x v hN e hv
 have fin : EP X pins σ Q u s:=⟨v,H,I,r,h⟩
 rcases l with ⟨hk,hm⟩ | ⟨hk,c,hc,hcell⟩
 ·
  exact wpAny_Name (wpAny_loadName_local I.ok.kind hk hn hm fin) hd
 ·
  rcases hk with hk | hk
  ·
   exact wpAny_Name (wpAny_loadName_cell I.ok.kind hk hc hcell fin) hd
  ·
   exact wpAny_Name (wpAny_loadName_free I.ok.kind hk hc hcell fin hcd) hd
theorem pe_int {i j pos} : PE X (.Constant (.int i) j pos) (tC (.int i)):=fun _ _ _ H _ I h => wpAny_Constant_int ⟨.int i,H,I.tok _,⟨_,rfl⟩,h⟩
theorem pe_bl {b j pos} : PE X (.Constant (.bool b) j pos) (tC (.bl b)):=fun _ _ _ H _ I h => Constant_bool ⟨.bl b,H,I,rfl,h⟩
theorem pe_str {x j pos} : PE X (.Constant (.str x) j pos) (tC (.str x)):=fun _ _ _ H _ I h => Calls.Constant_str ⟨.str x,H,I.tok _,⟨_,rfl⟩,h⟩
def Gl (X : Cx) (x : Str) : Prop:=X.env.kindOf x = some .globalImplicit
theorem ld_glob {E : Value -> Shared -> Prop} {pins : List (Addr × Obj)} {s : Shared} {σ : St} {H : Hp} {x : Str} {u : Value} {pos : Pos} {Q : Value -> Shared -> Prop} (I : Inv X pins σ H s) (hg : Gl X x) (hm : X.mg x = some u) (h : Q u s)
  (hd : (x == ("__debug__" : Str)) = false:=by decide) : wpAny (model X.prog X.w) X.A (eval (.Name x pos) X.env) Q E s :=
 Calls.Name_function_global I.ok.kind hg (Calls.loadGlobal_global (by rw [I.ok.glob]; exact I.mod.glob.keeps I.bk) hm h) hd
theorem ld_blt {E : Value -> Shared -> Prop} {pins : List (Addr × Obj)} {s : Shared} {σ : St} {H : Hp} {x : Str} {u : Value} {pos : Pos} {Q : Value -> Shared -> Prop} (I : Inv X pins σ H s) (hg : Gl X x) (hm : X.mg x = none) (hv : bootBuiltins x = some u) (h : Q u s)
  (hn : x ≠ "__name__":=by decide) (hd : (x == ("__debug__" : Str)) = false:=by decide) : wpAny (model X.prog X.w) X.A (eval (.Name x pos) X.env) Q E s:=by
 obtain ⟨mb,h1,h2⟩:=I.mod.blt
 exact Calls.Name_function_global I.ok.kind hg (Calls.loadGlobal_builtin (by rw [I.ok.glob]; exact I.mod.glob.keeps I.bk) hm (by rw [I.ok.blt]; exact h1.keeps I.bk) ((h2 x hn).trans hv) h) hd
theorem pe_glob {x : Str} {v : V} {u : Value} {pos : Pos} (hg : Gl X x) (hm : X.mg x = some u) (r : RelV v u) (hd : (x == ("__debug__" : Str)) = false:=by decide) : PE X (.Name x pos) (tC v) :=
 fun _ _ _ H _ I h => ld_glob I hg hm ⟨v,H,I,r,h⟩ hd
theorem pe_bltn {x : Str} {v : V} {u : Value} {pos : Pos} (hg : Gl X x) (hm : X.mg x = none) (hv : bootBuiltins x = some u) (r : RelV v u) (hn : x ≠ "__name__":=by decide) (hd : (x == ("__debug__" : Str)) = false:=by decide) : PE X (.Name x pos) (tC v) :=
 fun _ _ _ H _ I h => ld_blt I hg hm hv ⟨v,H,I,r,h⟩ hn hd
variable {a b : Expr} {ta tb : TE} {pos : Pos}
def tB (t : TE) : TT:=fun σ H Q => t σ H fun x H1 => ∃ c,x = .bl c /\ Q c H1
theorem pt_val {e : Expr} {t : TE} (h : PE X e t) (he : ∀ whole,isTrue e X.env whole = (do let v <- whole; standAt e.pos; holding [v] (truthy v)):=by intro _; rfl) : PT X e (tB t):=by
 intro pins s σ H Q I hw
 refine isTrue_plain (thn (h pins s σ H _ I hw) fun v s1 ⟨x,H1,I1,r1,q1⟩ => ?_) (he _)
 obtain ⟨d,rfl,q⟩:=q1
 cases r1
 exact wpAny_truthy_bool ⟨H1,I1,q⟩
variable {tA tB' : TT} {rest : List Expr}
def tAnd (t u : TT) : TT:=fun σ H Q => t σ H fun c H1 => if c = true then u σ H1 Q else Q false H1
def tOr (t u : TT) : TT:=fun σ H Q => t σ H fun c H1 => if c = true then Q true H1 else u σ H1 Q
def tNot (t : TT) : TT:=fun σ H Q => t σ H fun c H1 => Q (!c) H1
theorem pw_and1 (ha : PT X a tA) : PW X (.BoolOp .And [a] pos) tA:=by
 intro wh pins s σ H Q I h
 refine isTrue_and (thn (ha pins s σ H Q I h) fun c s1 e => ?_)
 cases c with
 | true => exact isTrue_and_nil e
 | false => exact e
theorem pw_or1 (ha : PT X a tA) : PW X (.BoolOp .Or [a] pos) tA:=by
 intro wh pins s σ H Q I h
 refine isTrue_or (thn (ha pins s σ H Q I h) fun c s1 e => ?_)
 cases c with
 | false => exact isTrue_or_nil e
 | true => exact e
theorem pw_and (ha : PT X a tA) (hb : PW X (.BoolOp .And (b :: rest) pos) tB') : PW X (.BoolOp .And (a :: b :: rest) pos) (tAnd tA tB'):=by
 intro wh pins s σ H Q I h
 refine isTrue_and (thn (ha pins s σ H _ I h) fun c s1 ⟨H1,I1,q1⟩ => ?_)
 cases c with
 | true => exact hb wh pins s1 σ H1 Q I1 q1
 | false => exact ⟨H1,I1,q1⟩
theorem pw_or (ha : PT X a tA) (hb : PW X (.BoolOp .Or (b :: rest) pos) tB') : PW X (.BoolOp .Or (a :: b :: rest) pos) (tOr tA tB'):=by
 intro wh pins s σ H Q I h
 refine isTrue_or (thn (ha pins s σ H _ I h) fun c s1 ⟨H1,I1,q1⟩ => ?_)
 cases c with
 | true => exact ⟨H1,I1,q1⟩
 | false => exact hb wh pins s1 σ H1 Q I1 q1
theorem pt_not (ha : PT X a tA) : PT X (.UnaryOp .Not a pos) (tNot tA):=by
 intro pins s σ H Q I h
 exact isTrue_not (ha pins s σ H (fun c H1 => Q (!c) H1) I h)
def tOrV (ta tb : TE) : TE:=fun σ H Q => ta σ H fun x H1 => ∃ c,x = .bl c /\ if c = true then Q (.bl true) H1 else tb σ H1 Q
theorem pe_one {op} {t : TE} (h : PE X a t) : PE X (.BoolOp op [a] pos) t:=fun pins s σ H Q I hw => BoolOp_one (h pins s σ H Q I hw)
theorem pe_or (ha : PE X a ta) (hb : PE X (.BoolOp .Or (b :: rest) pos) tb) : PE X (.BoolOp .Or (a :: b :: rest) pos) (tOrV ta tb):=by
 intro pins s σ H Q I h
 refine BoolOp_or (thn (ha pins s σ H _ I h) fun v s1 ⟨x,H1,I1,r1,q1⟩ => ?_)
 obtain ⟨c,rfl,q1⟩:=q1
 cases r1
 refine wpAny_truthy_bool ?_
 cases c with
 | false => exact hb pins s1 σ H1 Q I1 q1
 | true => exact ⟨.bl true,H1,I1,rfl,q1⟩
end
end L2
namespace L2
open PySem PySem.Spec PyProof.Rows
def SqL (K : PySem.W.Frag) (H : Hp) (a : Addr) (xs : List V) : Prop :=
 Rd H a (.lst xs) \/
  ∃ (o : Obj) (its : Array Value) (n : Nat),K.lookup a = some o /\ o.cls = .type "list" /\ o.dict = none /\ o.data = .seq its n /\ its.size <= sizeLine /\ Vals xs its.toList
def SqT (K : PySem.W.Frag) (H : Hp) (a : Addr) (xs : List V) : Prop :=
 Rd H a (.tup xs) \/
  ∃ (o : Obj) (its : Array Value) (n : Nat),K.lookup a = some o /\ o.cls = .type "tuple" /\ o.dict = none /\ o.data = .seq its n /\ its.size <= sizeLine /\ Vals xs its.toList
noncomputable def absV : Value -> Option V
 | .none => some .non
 | .bool b => some (.bl b)
 | .int i _ => some (.int i)
 | .str x _ => some (.str x)
 | .bytes b _ => some (.byt b)
 | .float b _ => some (.flt b)
 | .ref a => some (.ref a)
 | .type n => some (.ty n)
 | _ => none
theorem RelV.abs {x : V} {u : Value} (r : RelV x u) : absV u = some x:=by
 cases x with
 | non => cases r; rfl
 | bl _ => cases r; rfl
 | int _ => obtain ⟨t,rfl⟩:=r; rfl
 | str _ => obtain ⟨t,rfl⟩:=r; rfl
 | byt _ => obtain ⟨t,rfl⟩:=r; rfl
 | flt _ => obtain ⟨t,rfl⟩:=r; rfl
 | ref _ => cases r; rfl
 | ty _ => cases r; rfl
theorem RelV.inj {x y : V} {u : Value} (r : RelV x u) (q : RelV y u) : x = y:=Option.some.inj (r.abs.symm.trans q.abs)
theorem Vals.inj {xs ys : List V} {us : List Value} (h : Vals xs us) (h' : Vals ys us) : xs = ys:=by
 induction h generalizing ys with
 | nil => cases h'; rfl
 | cons r t ih =>
  cases h' with
  | cons r' t' => rw [r.inj r',ih t']
section
variable {X : Cx} {pins : List (Addr × Obj)} {σ : St} {H : Hp} {s : Shared} {a : Addr} {xs ys : List V}
theorem SqL.of {K : PySem.W.Frag} (h : H a = some (.lst xs)) : SqL K H a xs:=.inl (.inl h)
theorem SqT.of {K : PySem.W.Frag} (h : H a = some (.tup xs)) : SqT K H a xs:=.inl (.inl h)
theorem Inv.list (I : Inv X pins σ H s) (h : SqL X.K H a xs) : ∃ its : List Value,Vals xs its /\ PlainL s.heap a its.toArray /\ xs.length <= sizeLine:=by
 rcases h with h | ⟨o,its,n,hk,hc,hd,hs,hz,r⟩
 ·
  obtain ⟨z,its,n,r,e⟩:=h.ok I.hok
  exact ⟨its,r,⟨_,n,e,rfl,rfl,rfl⟩,z⟩
 ·
  refine ⟨its.toList,r,⟨o,n,I.kIn a o hk,hc,hd,by simpa using hs⟩,?_⟩
  have e:=r.length
  simp only [Array.length_toList] at e
  omega
theorem Inv.tuple (I : Inv X pins σ H s) (h : SqT X.K H a xs) : ∃ its : List Value,Vals xs its /\ IsTup s.heap a its.toArray /\ xs.length <= sizeLine:=by
 rcases h with h | ⟨o,its,n,hk,hc,_,hs,hz,r⟩
 ·
  obtain ⟨z,its,r,p⟩:=h.ok I.hok
  exact ⟨its,r,p.is,z⟩
 ·
  refine ⟨its.toList,r,⟨o,I.kIn a o hk,hc,n,by simpa using hs⟩,?_⟩
  have e:=r.length
  simp only [Array.length_toList] at e
  omega
theorem Inv.list_inj (I : Inv X pins σ H s) (h : SqL X.K H a xs) (h' : SqL X.K H a ys) : xs = ys:=by
 obtain ⟨its,r,⟨o,n,e,_,_,d⟩,_⟩:=I.list h
 obtain ⟨its',r',⟨o',n',e',_,_,d'⟩,_⟩:=I.list h'
 rw [e] at e'; cases e'
 rw [d] at d'
 injection d' with d1 _
 have : its = its':=by simpa using congrArg Array.toList d1
 subst this
 exact r.inj r'
theorem Inv.tuple_inj (I : Inv X pins σ H s) (h : SqT X.K H a xs) (h' : SqT X.K H a ys) : xs = ys:=by
 obtain ⟨its,r,⟨o,e,_,n,d⟩,_⟩:=I.tuple h
 obtain ⟨its',r',⟨o',e',_,n',d'⟩,_⟩:=I.tuple h'
 rw [e] at e'; cases e'
 rw [d] at d'
 injection d' with d1 _
 have : its = its':=by simpa using congrArg Array.toList d1
 subst this
 exact r.inj r'
end
noncomputable abbrev Cx.wish (X : Cx) (E : Value -> Shared -> Prop) : Cx:={ X with xe:=E }
noncomputable abbrev Cx.nox (X : Cx) : Cx:=X.wish fun _ _ => False
theorem Cx.Ok.wish {X : Cx} (ok : X.Ok) (E : Value -> Shared -> Prop) : (X.wish E).Ok :=
 ⟨ok.mod,ok.kind,ok.glob,ok.blt,ok.above,ok.inj,ok.has,ok.cab,ok.hd,ok.frames,ok.stk,ok.exf,ok.bs,ok.bsz,ok.noex,ok.exfs,ok.funs,ok.frf⟩
theorem Cx.Ok.unwish {X : Cx} {E : Value -> Shared -> Prop} (ok : (X.wish E).Ok) : X.Ok :=
 ⟨ok.mod,ok.kind,ok.glob,ok.blt,ok.above,ok.inj,ok.has,ok.cab,ok.hd,ok.frames,ok.stk,ok.exf,ok.bs,ok.bsz,ok.noex,ok.exfs,ok.funs,ok.frf⟩
section
variable {X : Cx} {pins : List (Addr × Obj)} {σ : St} {H : Hp} {s : Shared} {E : Value -> Shared -> Prop}
theorem Inv.wish (I : Inv X pins σ H s) (E : Value -> Shared -> Prop) : Inv (X.wish E) pins σ H s:=⟨I.ok.wish E,I.os,I.bare,I.base,I.loc,I.cell,I.free,I.freeC,I.pin,I.hok,I.len⟩
theorem Inv.unwish (I : Inv (X.wish E) pins σ H s) : Inv X pins σ H s:=⟨I.ok.unwish,I.os,I.bare,I.base,I.loc,I.cell,I.free,I.freeC,I.pin,I.hok,I.len⟩
theorem SP.unwish {D : Ends} {f : Flow} {s' : Shared} (h : SP (X.wish E) pins D f s') : SP X pins D f s':=by
 cases f with
 | next => obtain ⟨σ',H',I,q⟩:=h; exact ⟨σ',H',I.unwish,q⟩
 | brk => obtain ⟨σ',H',I,q⟩:=h; exact ⟨σ',H',I.unwish,q⟩
 | cont => obtain ⟨σ',H',I,q⟩:=h; exact ⟨σ',H',I.unwish,q⟩
 | ret u => obtain ⟨v,σ',H',I,r,q⟩:=h; exact ⟨v,σ',H',I.unwish,r,q⟩
theorem PE.nox {e : Expr} {t : TE} (h : PE X.nox e t) : PE X e t:=fun pins s σ H Q I hw =>
 wpAny_mono (h pins s σ H Q (I.wish _) hw) (fun _ _ ⟨v,H',I',r,q⟩ => ⟨v,H',I'.unwish,r,q⟩) fun _ _ z => False.elim z
theorem PT.nox {e : Expr} {t : TT} (h : PT X.nox e t) : PT X e t:=fun pins s σ H Q I hw =>
 wpAny_mono (h pins s σ H Q (I.wish _) hw) (fun _ _ ⟨H',I',q⟩ => ⟨H',I'.unwish,q⟩) fun _ _ z => False.elim z
theorem PSs.nox {st : List Stmt} {t : TS} (h : PSs X.nox st t) : PSs X st t:=fun pins s σ H D I hw =>
 wpAny_mono (h pins s σ H D (I.wish _) hw) (fun _ _ q => q.unwish) fun _ _ z => False.elim z
end
section
variable {X : Cx} {st : Stmt} {rest : List Stmt} {t u : TS} {e : Expr} {te : TE} {pos : Pos}
def tNext : TS:=fun D σ H => D.nx σ H
def tSeq (t u : TS) : TS:=fun D σ H => t { D with nx:=u D } σ H
theorem pss_nil : PSs X [] tNext:=fun _ _ σ H _ I h => wpAny_execs_nil ⟨σ,H,I,h⟩
theorem pss_cons (h1 : PS X st t) (h2 : PSs X rest u) : PSs X (st :: rest) (tSeq t u):=by
 intro pins s σ H D I h
 refine wpAny_execs_cons (thn (h1 pins s σ H { D with nx:=u D } I h) fun f s1 q => ?_)
 cases f with
 | next =>
  obtain ⟨σ',H',I',q⟩:=q
  exact h2 pins s1 σ' H' D I' q
 | ret v => exact q
 | brk => exact q
 | cont => exact q
theorem pss_one (h1 : PS X st t) : PSs X [st] t:=by
 intro pins s σ H D I h
 refine wpAny_execs_cons (thn (h1 pins s σ H D I h) fun f s1 q => ?_)
 cases f with
 | next => exact wpAny_execs_nil q
 | ret v => exact q
 | brk => exact q
 | cont => exact q
theorem Inv.quiet {pins : List (Addr × Obj)} {σ : St} {H : Hp} {s : Shared} (I : Inv X pins σ H s) : interactive X.env = false:=by simp [interactive,I.ok.kind]
def tDrop (te : TE) : TS:=fun D σ H => te σ H fun _ H1 => D.nx σ H1
theorem ps_expr (he : PE X e te) (hs : swapsWith e none pos.line X.env = pure false:=by rfl) : PS X (.Expr e pos) (tDrop te):=by
 intro pins s σ H D I h
 exact wpAny_Expr_any (thn (he pins s σ H _ I h) fun v s1 ⟨x,H1,I1,r1,q1⟩ => ⟨σ,H1,I1,q1⟩) I.quiet hs
def tRet (te : TE) : TS:=fun D σ H => te σ H D.rt
theorem ps_ret (he : PE X e te) : PS X (.Return (some e) pos) (tRet te):=by
 intro pins s σ H D I h
 exact wpAny_Return_some (thn (he pins s σ H _ I h) fun v s1 ⟨x,H1,I1,r1,q1⟩ => ⟨x,σ,H1,I1,r1,q1⟩)
def tIfS (c : TT) (t u : TS) : TS:=fun D σ H => c σ H fun b H1 => if b = true then t D σ H1 else u D σ H1
theorem ps_if {c : Expr} {a b : List Stmt} {tc : TT} (hc : PT X c tc) (ha : PSs X a t) (hb : PSs X b u) : PS X (.If c a b pos) (tIfS tc t u):=by
 intro pins s σ H D I h
 refine wpAny_If (thn (hc pins s σ H _ I h) fun d s1 ⟨H1,I1,q1⟩ => ?_)
 cases d with
 | true => exact ha pins s1 σ H1 D I1 q1
 | false => exact hb pins s1 σ H1 D I1 q1
end
abbrev TG:=V -> St -> Hp -> (St -> Hp -> Prop) -> Prop
abbrev TGs:=List V -> St -> Hp -> (St -> Hp -> Prop) -> Prop
def PG (X : Cx) (target : Expr) (t : TG) : Prop :=
 ∀ (pins : List (Addr × Obj)) (s : Shared) (σ : St) (H : Hp) (v : V) (u : Value) (Q : St -> Hp -> Prop),Inv X pins σ H s -> RelV v u -> t v σ H Q ->
  wpAny (model X.prog X.w) X.A (assign target X.env u) (fun _ s' => ∃ σ' H',Inv X pins σ' H' s' /\ Q σ' H') X.xe s
def PGs (X : Cx) (ts : List Expr) (t : TGs) : Prop :=
 ∀ (pins : List (Addr × Obj)) (s : Shared) (σ : St) (H : Hp) (vs : List V) (us : List Value) (Q : St -> Hp -> Prop),Inv X pins σ H s -> Vals vs us -> t vs σ H Q ->
  wpAny (model X.prog X.w) X.A (assignInOrder ((assignEach ts X.env).map (·.2)) us) (fun _ s' => ∃ σ' H',Inv X pins σ' H' s' /\ Q σ' H') X.xe s
abbrev TSet:=V -> V -> V -> Hp -> (Hp -> Prop) -> Prop
def PSet (X : Cx) (t : TSet) : Prop :=
 ∀ (pins : List (Addr × Obj)) (s : Shared) (σ : St) (H : Hp) (o i v : V) (ov iv u : Value) (Q : Hp -> Prop),Inv X pins σ H s -> RelV o ov -> RelV i iv -> RelV v u -> t o i v H Q ->
  wpAny (model X.prog X.w) X.A (setItem ov iv u) (fun _ s' => ∃ H',Inv X pins σ H' s' /\ Q H') X.xe s
section
variable {X : Cx} {pos : Pos}
def gName (i : Nat) : TG:=fun v σ H Q => Q (σ.set i (some v)) H
theorem pg_name {i : Nat} {x : Str} (hN : X.N.Nodup) (hi : X.N[i]? = some x) (hx : Loc X.env.scope x) (hf : X.fn x = true \/ X.env.scope.names.lookup x = some .local:=by first | exact .inl rfl | exact .inr rfl | assumption) : PG X (.Name x pos) (gName i):=by
 intro pins s σ H v u Q I r h
 exact wpAny_assign_Name (store_ok I hN hi hx r (fun s' I' => ⟨_,H,I',h⟩) hf)
def gNil : TGs:=fun vs σ H Q => vs = [] /\ Q σ H
def gCons (t : TG) (u : TGs) : TGs:=fun vs σ H Q => ∃ v r,vs = v :: r /\ t v σ H fun σ' H' => u r σ' H' Q
theorem pgs_nil : PGs X [] gNil:=by
 intro pins s σ H vs us Q I r h
 obtain ⟨e,h⟩:=h
 subst e
 cases r
 exact assignInOrder_nil ⟨σ,H,I,h⟩
theorem pgs_cons {e : Expr} {es : List Expr} {t : TG} {u : TGs} (h1 : PG X e t) (h2 : PGs X es u)
  (hs : (assignEach (e :: es) X.env).map (·.2) = assign e X.env :: (assignEach es X.env).map (·.2):=by rfl) : PGs X (e :: es) (gCons t u):=by
 intro pins s σ H vs us Q I r h
 obtain ⟨v,vr,e1,h⟩:=h
 subst e1
 cases r with
 | cons r rr =>
  rw [hs]
  refine assignInOrder_cons (thn (h1 pins s σ H _ _ _ I r h) fun _ s1 ⟨σ1,H1,I1,q1⟩ => ?_)
  exact h2 pins s1 σ1 H1 _ _ Q I1 rr q1
def gTup (K : PySem.W.Frag) (n : Nat) (t : TGs) : TG:=fun v σ H Q => ∃ a xs,v = .ref a /\ SqT K H a xs /\ xs.length = n /\ t xs σ H Q
theorem pg_tup {es : List Expr} {k : Nat} {t : TGs} {n : Nat} (hc : X.calm = true) (h : PGs X es t)
  (hn : (assignEach es X.env).length = n:=by rfl) (hst : (assignEach es X.env).findIdx? (·.1) = none:=by rfl) : PG X (.Tuple es k pos) (gTup X.K n t):=by
 intro pins s σ H v u Q I r hw
 obtain ⟨a,xs,e1,hq,hl,hw⟩:=hw
 subst e1
 cases r
 obtain ⟨its,rv,ht,hz⟩:=I.tuple hq
 refine assign_Tuple_tuple (I.ok.hd hc) ht (by simp [hn,<- hl,rv.length]) hst fun h' hx => ?_
 have I1 : Inv X pins σ H { s with heap:=h' }:=I.kept (t':=s.toks) fun b o e => hx b o (Nat.ne_of_lt (Heap.lt_size e)) e
 exact h pins _ σ H xs _ Q I1 (by simpa using rv) hw
def gSub (to ti : TE) (t : TSet) : TG:=fun v σ H Q => to σ H fun o H1 => ti σ H1 fun i H2 => t o i v H2 fun H3 => Q σ H3
theorem pg_sub {o i : Expr} {to ti : TE} {t : TSet} (ho : PE X o to) (hi : PE X i ti) (hs : PSet X t)
  (ha : ∀ v,assign (.Subscript o i pos) X.env v = (do
   let ov <- holding [v] (eval o X.env)
   let iv <- holding [v,ov] (eval i X.env)
   standAt pos
   holding [v,ov,iv] (setItem ov iv v)
   release [v,ov,iv] []):=by intro _; rfl) : PG X (.Subscript o i pos) (gSub to ti t):=by
 intro pins s σ H v u Q I r h
 rw [ha]
 refine wpAny_bind (wpAny_holding (thn (ho pins s σ H _ I h) fun ov s1 ⟨x,H1,I1,r1,q1⟩ => ?_))
 refine wpAny_bind (wpAny_holding (thn (hi pins s1 σ H1 _ I1 q1) fun iv s2 ⟨y,H2,I2,r2,q2⟩ => ?_))
 refine wpAny_bind (wpAny_standAt (wpAny_bind (wpAny_holding (thn (hs pins s2 σ H2 x y v ov iv u _ I2 r1 r2 r q2) fun _ s3 ⟨H3,I3,q3⟩ => ?_))))
 exact wpAny_release ⟨σ,H3,I3,q3⟩
def tAsg (te : TE) (g : TG) : TS:=fun D σ H => te σ H fun x H1 => g x σ H1 D.nx
theorem ps_asg {tg e : Expr} {te : TE} {g : TG} (he : PE X e te) (hg : PG X tg g) (hs : swapsWithSole [tg] e pos.line X.env = pure false:=by rfl) (hw : swappedStores [tg] e X.env = pure none:=by rfl)
  (h1 : (assignEach [tg] X.env).map (·.2) = [assign tg X.env]:=by rfl) : PS X (.Assign [tg] e pos) (tAsg te g):=by
 intro pins s σ H D I h
 refine wpAny_Assign_stores (thn (he pins s σ H _ I h) fun v s1 ⟨x,H1,I1,r1,q1⟩ => ?_) hs hw
 rw [h1]
 exact thn (hg pins s1 σ H1 x v _ I1 r1 q1) fun _ s2 q => q
theorem ps_set {i : Nat} {x : Str} {e : Expr} {te : TE} {pos' : Pos} (hN : X.N.Nodup) (hi : X.N[i]? = some x) (hx : Loc X.env.scope x) (he : PE X e te) (hs : swapsWith e (some (.Name x pos')) pos.line X.env = pure false:=by rfl) (hf : X.fn x = true \/ X.env.scope.names.lookup x = some .local:=by first | exact .inl rfl | exact .inr rfl | assumption) :
  PS X (.Assign [.Name x pos'] e pos) (tAsg te (gName i)):=by
 intro pins s σ H D I h
 refine wpAny_Assign_Name (thn (he pins s σ H _ I h) fun v s1 ⟨y,H1,I1,r1,q1⟩ => ?_) hs
 exact store_ok I1 hN hi hx r1 (fun s2 I2 => ⟨_,H1,I2,q1⟩) hf
end
section
variable {X : Cx} {pos : Pos}
def tWhile (c : TT) (tb : TS) : TS:=fun D σ H => ∃ W : Nat -> St -> Hp -> Prop,(∃ m,W m σ H) /\ ∀ m σ H,W m σ H ->
 c σ H fun b H1 => if b = true then ∃ N : St -> Hp -> Prop,(∀ σ' H',N σ' H' -> ∃ m',m' < m /\ W m' σ' H') /\ tb { D with nx:=N,ct:=N,bk:=D.nx } σ H1 else D.nx σ H1
theorem ps_while {c : Expr} {body : List Stmt} {tc : TT} {tb : TS} (hp : PassesOwn (model X.prog X.w) X.A X.env X.xe) (hc : PT X c tc) (hb : PSs X body tb) : PS X (.While c body [] pos) (tWhile tc tb):=by
 intro pins s σ H D I h
 obtain ⟨W,⟨m0,w0⟩,turn⟩:=h
 refine wpAny_While (codeAny_whileLoop (fun n s' => ∃ σ' H',Inv X pins σ' H' s' /\ W n σ' H') ?_ m0 ⟨σ,H,I,w0⟩)
 rintro n s1 ⟨σ1,H1,I1,w1⟩
 refine wpAny_passesOwn hp (thn (hc pins s1 σ1 H1 _ I1 (turn n σ1 H1 w1)) fun b s2 ⟨H2,I2,q2⟩ => ?_)
 cases b with
 | true =>
  obtain ⟨N,hN,q2⟩:=q2
  rw [if_pos rfl]
  refine wpAny_passesOwn hp (thn (hb pins s2 σ1 H2 _ I2 q2) fun f s3 q3 => ?_)
  cases f with
  | next =>
   obtain ⟨σ3,H3,I3,n3⟩:=q3
   obtain ⟨m',hm,w3⟩:=hN σ3 H3 n3
   exact ⟨m',hm,σ3,H3,I3,w3⟩
  | cont =>
   obtain ⟨σ3,H3,I3,n3⟩:=q3
   obtain ⟨m',hm,w3⟩:=hN σ3 H3 n3
   exact ⟨m',hm,σ3,H3,I3,w3⟩
  | brk => exact q3
  | ret v => exact q3
 | false =>
  rw [if_neg Bool.false_ne_true]
  exact wpAny_execs_nil ⟨σ1,H2,I2,q2⟩
end
structure It where
 go : Nat -> Hp -> Prop
 yld : Nat -> Hp -> V -> Hp -> Prop
 stop : Nat -> Hp -> Prop
def FpOk (X : Cx) (pins : List (Addr × Obj)) (H : Hp) (b : Addr) : Prop :=
 H b = none /\ b ≠ X.env.locals /\ b ∉ X.fs /\ (b ∈ X.ex \/ X.s₀.heap.objs.size <= b) /\ (∀ x c,X.env.cells.lookup x = some c -> c ≠ b) /\ ∀ p ∈ X.pn ++ pins,p.1 ≠ b
theorem Inv.fpOk {X : Cx} {pins : List (Addr × Obj)} {σ : St} {H H' : Hp} {s : Shared} {b : Addr} (I : Inv X pins σ H s) (hb : s.heap.objs.size <= b) (hn : H' b = none) : FpOk X pins H' b:=by
 refine ⟨hn,Nat.ne_of_gt (Nat.lt_of_lt_of_le I.lt hb),I.nofs hb,.inr (Nat.le_trans I.sz hb),fun x c e z => ?_,fun p hp z => ?_⟩
 ·
  obtain ⟨v,q⟩:=I.cell x c e
  exact absurd (Nat.lt_of_lt_of_le q.lt (by rw [z]; exact hb)) (Nat.lt_irrefl _)
 ·
  exact absurd (Nat.lt_of_lt_of_le (Heap.lt_size (I.pin p hp).1) (by rw [z]; exact hb)) (Nat.lt_irrefl _)
structure Turn (P : Program) (w : World) (K : PySem.W.Frag) (tg : Expr) (J : It) (fp : List Addr) (it : Addr) (tn : Nat -> Heap -> Prop) : Prop where
 mem : it ∈ fp
 obj : ∀ i h,tn i h -> ∀ b ∈ fp,∃ o,h.get? b = some o /\ ∀ v,o.data ≠ .cell v
 keep : ∀ i h h',tn i h -> (∀ b ∈ fp,∀ o,h.get? b = some o -> h'.get? b = some o) -> tn i h'
 item : ∀ (X : Cx),X.prog = P -> X.w = w -> X.K = K -> X.calm = true -> ∀ (i : Nat) (pins : List (Addr × Obj)) (s : Shared) (σ : St) (H : Hp) (E : Value -> Shared -> Prop),Inv X pins σ H s -> (∀ b ∈ fp,FpOk X pins H b) -> tn i s.heap -> J.go i H ->
  wpAny (model P w) X.A (pyNext (.ref it)) (fun r s1 => ∃ u,r = some u /\
   wpAny (model P w) X.A (letOwnedTupleGo tg (.ref it) u) (fun _ s2 => ∃ x H',Inv X pins σ H' s2 /\ RelV x u /\ J.yld i H x H' /\ tn (i + 1) s2.heap /\ ∀ b ∈ fp,H' b = none) E s1) E s
 done : ∀ (X : Cx),X.prog = P -> X.w = w -> X.K = K -> X.calm = true -> ∀ (i : Nat) (pins : List (Addr × Obj)) (s : Shared) (σ : St) (H : Hp) (E : Value -> Shared -> Prop),Inv X pins σ H s -> (∀ b ∈ fp,FpOk X pins H b) -> tn i s.heap -> J.stop i H ->
  wpAny (model P w) X.A (pyNext (.ref it)) (fun r s1 => r = none /\ Inv X pins σ H s1) E s
 self : ∀ (A : Around) (i : Nat) (s : Shared) (Q : Value -> Shared -> Prop) (E : Value -> Shared -> Prop),tn i s.heap -> Q (.ref it) s -> wpAny (model P w) A (pyIter (.ref it)) Q E s
abbrev TI:=St -> Hp -> (It -> Hp -> Prop) -> Prop
def PIE (X : Cx) (pins : List (Addr × Obj)) (σ : St) (tg : Expr) (R : It -> Hp -> Prop) (itv : Value) (s2 : Shared) : Prop :=
 ∃ (it : Addr) (fp : List Addr) (tn : Nat -> Heap -> Prop) (J : It) (H' : Hp),itv = .ref it /\ Inv X pins σ H' s2 /\ Turn X.prog X.w X.K tg J fp it tn /\ tn 0 s2.heap /\ (∀ b ∈ fp,FpOk X pins H' b) /\ R J H'
def PI (X : Cx) (tg iter : Expr) (wi : TI) : Prop :=
 ∀ (pins : List (Addr × Obj)) (s : Shared) (σ : St) (H : Hp) (R : It -> Hp -> Prop),Inv X pins σ H s -> wi σ H R ->
  wpAny (model X.prog X.w) X.A (eval iter X.env) (fun v s1 => wpAny (model X.prog X.w) X.A (pyIter v) (PIE X pins σ tg R) X.xe s1) X.xe s
theorem go_of {M : Model} {A : Around} {E : Value -> Shared -> Prop} {s : Shared} {tg : Expr} {it : Addr} {u : Value} {o : Obj} {n : String} {vs : Array Value} {Q : Unit -> Shared -> Prop} (ho : s.heap.get? it = some o) (hc : o.cls = .type n) (hd : o.data = .fields vs)
  (hn : ["enumerate","zip","dict_itemiterator","dict_reverseitemiterator","odict_iterator","itertools.zip_longest","itertools.pairwise"].contains n = false) (hQ : Q () s) : wpAny M A (letOwnedTupleGo tg (.ref it) u) Q E s:=by
 unfold letOwnedTupleGo
 cases tg <;> first
  | exact wpAny_pure hQ
  | (cases u <;> first
    | exact wpAny_pure hQ
    | (refine wpAny_bind (wpAny_load ho ?_)
       rw [hc,hd]
       show wpAny M A (if (["enumerate","zip","dict_itemiterator","dict_reverseitemiterator","odict_iterator","itertools.zip_longest","itertools.pairwise"].contains n && vs[0]? == some (rawInt _)) = true then _ else _) Q E s
       rw [if_neg (by intro h; rw [hn,Bool.false_and] at h; cases h)]
       exact wpAny_pure hQ))
noncomputable def Itl (K : PySem.W.Frag) (a : Addr) : It :=
 ⟨fun i H => ∃ xs x,SqL K H a xs /\ xs[i]? = some x,fun i H x H' => H' = H /\ ∀ xs,SqL K H a xs -> xs[i]? = some x,fun i H => ∃ xs,SqL K H a xs /\ xs.length <= i⟩
noncomputable def Itt (K : PySem.W.Frag) (a : Addr) : It :=
 ⟨fun i H => ∃ xs x,SqT K H a xs /\ xs[i]? = some x,fun i H x H' => H' = H /\ ∀ xs,SqT K H a xs -> xs[i]? = some x,fun i H => ∃ xs,SqT K H a xs /\ xs.length <= i⟩
noncomputable def Itr (lo : Int) (n : Nat) : It:=⟨fun i _ => i < n,fun i H x H' => H' = H /\ x = .int (lo + i),fun i _ => n <= i⟩
theorem turn_list {P : Program} {w : World} {K : PySem.W.Frag} {tg : Expr} (a it : Addr) : Turn P w K tg (Itl K a) [it] it (fun i h => h.IsListIter it a i) where
 mem:=by simp
 obj:=fun i h st b hb => by
  have e : b = it:=by simpa using hb
  subst e
  obtain ⟨o,e,c,d⟩:=st
  exact ⟨o,e,fun v z => by rw [d] at z; cases z⟩
 keep:=fun i h h' st k => st.at fun o e => k it (by simp) o e
 item:=by
  intro X hP hw hK hc i pins s σ H E I hf st hg
  subst hP hw hK
  obtain ⟨xs,x,hq,hx⟩:=hg
  obtain ⟨its,rv,p,hz⟩:=I.list hq
  obtain ⟨u,hu,ru⟩:=rv.get hx
  obtain ⟨f0,f1,f2,f3,f4,f5⟩:=hf it (by simp)
  refine wpAny_pyNext_list_item st p.isList (x:=u) (by simpa using hu) fun h' st' sb => ?_
  have I1 : Inv X pins σ H { s with heap:=h' }:=I.turned (t':=s.toks) (fun b o hb e => (sb.2 b hb).trans e) f0 f1 f3 f4 f5
  obtain ⟨o,e,c,d⟩:=id st'
  exact ⟨u,rfl,go_of (s:={ s with heap:=h' }) e c d (by decide) ⟨x,H,I1,ru,⟨rfl,fun ys hy => by rw [I.list_inj hy hq]; exact hx⟩,st',fun b hb => (hf b hb).1⟩⟩
 done:=by
  intro X hP hw hK hc i pins s σ H E I hf st hg
  subst hP hw hK
  obtain ⟨xs,hq,hx⟩:=hg
  obtain ⟨its,rv,p,hz⟩:=I.list hq
  obtain ⟨f0,f1,f2,f3,f4,f5⟩:=hf it (by simp)
  have hl:=rv.length
  exact wpAny_pyNext_list_end (I.ok.hd hc) st p.isList (by simp; omega) fun h' eb => ⟨rfl,I.turned (t':=s.toks) (fun b o hb e => eb b o hb e) f0 f1 f3 f4 f5⟩
 self:=fun _ _ _ _ _ st h => wpAny_pyIter_listiter st h
theorem turn_tuple {P : Program} {w : World} {K : PySem.W.Frag} {tg : Expr} (a it : Addr) : Turn P w K tg (Itt K a) [it] it (fun i h => h.IsTupleIter it a i) where
 mem:=by simp
 obj:=fun i h st b hb => by
  have e : b = it:=by simpa using hb
  subst e
  obtain ⟨o,e,c,d⟩:=st
  exact ⟨o,e,fun v z => by rw [d] at z; cases z⟩
 keep:=fun i h h' st k => st.at fun o e => k it (by simp) o e
 item:=by
  intro X hP hw hK hc i pins s σ H E I hf st hg
  subst hP hw hK
  obtain ⟨xs,x,hq,hx⟩:=hg
  obtain ⟨its,rv,p,hz⟩:=I.tuple hq
  obtain ⟨u,hu,ru⟩:=rv.get hx
  obtain ⟨f0,f1,f2,f3,f4,f5⟩:=hf it (by simp)
  refine wpAny_pyNext_tuple_item st (show s.heap.IsTuple a its.toArray from p) (x:=u) (by simpa using hu) fun h' st' sb => ?_
  have I1 : Inv X pins σ H { s with heap:=h' }:=I.turned (t':=s.toks) (fun b o hb e => (sb.2 b hb).trans e) f0 f1 f3 f4 f5
  obtain ⟨o,e,c,d⟩:=id st'
  exact ⟨u,rfl,go_of (s:={ s with heap:=h' }) e c d (by decide) ⟨x,H,I1,ru,⟨rfl,fun ys hy => by rw [I.tuple_inj hy hq]; exact hx⟩,st',fun b hb => (hf b hb).1⟩⟩
 done:=by
  intro X hP hw hK hc i pins s σ H E I hf st hg
  subst hP hw hK
  obtain ⟨xs,hq,hx⟩:=hg
  obtain ⟨its,rv,p,hz⟩:=I.tuple hq
  obtain ⟨f0,f1,f2,f3,f4,f5⟩:=hf it (by simp)
  have hl:=rv.length
  exact wpAny_pyNext_tuple_end (I.ok.hd hc) st (show s.heap.IsTuple a its.toArray from p) (by simp; omega) fun h' eb => ⟨rfl,I.turned (t':=s.toks) (fun b o hb e => eb b o hb e) f0 f1 f3 f4 f5⟩
 self:=fun _ _ _ _ _ st h => wpAny_pyIter_tupleiter st h
theorem turn_range {P : Program} {w : World} {K : PySem.W.Frag} {tg : Expr} (it : Addr) (lo : Int) (n : Nat) : Turn P w K tg (Itr lo n) [it] it (fun i h => IsRangeIter h it (lo + (i : Nat) * 1) ((n : Int) - (i : Nat)) 1) where
 mem:=by simp
 obj:=fun i h st b hb => by
  have e : b = it:=by simpa using hb
  subst e
  exact ⟨_,st,fun v z => by
   have z' : Data.fields _ = Data.cell v:=z
   cases z'⟩
 keep:=fun i h h' st k => k it (by simp) _ st
 item:=by
  intro X hP hw hK hc i pins s σ H E I hf st hg
  subst hP hw hK
  obtain ⟨f0,f1,f2,f3,f4,f5⟩:=hf it (by simp)
  have W:=Walks.range (prog:=X.prog) (w:=X.w) (I.ok.hd hc) it lo 1 n
  refine W.item i s _ _ hg st fun v h' tk hv st' kk => ?_
  obtain ⟨t,rfl⟩:=hv
  have I1 : Inv X pins σ H { s with heap:=h',toks:=tk }:=I.turned (fun b o hb e => kk b o (by simpa using hb) e) f0 f1 f3 f4 f5
  refine ⟨_,rfl,go_of (s:={ s with heap:=h',toks:=tk }) (n:="range_iterator") st' rfl rfl (by decide) ⟨.int (lo + i),H,I1,⟨t,?_⟩,⟨rfl,rfl⟩,st',fun b hb => (hf b hb).1⟩⟩
  rw [Int.mul_one]
 done:=by
  intro X hP hw hK hc i pins s σ H E I hf st hg
  subst hP hw hK
  obtain ⟨f0,f1,f2,f3,f4,f5⟩:=hf it (by simp)
  exact wpAny_pyNext_range_end (I.ok.hd hc) st (by have : n <= i:=hg; omega) fun h' eb => ⟨rfl,I.turned (t':=s.toks) (fun b o hb e => eb b o hb e) f0 f1 f3 f4 f5⟩
 self:=fun _ _ _ _ _ st h => wpAny_pyIter_rangeiter st h
end L2
namespace L2
open PySem PySem.Spec PyProof.Rows
section
variable {X : Cx} {tg : Expr}
def iList (K : PySem.W.Frag) (tl : TE) : TI:=fun σ H R => tl σ H fun x H1 => ∃ a,x = .ref a /\ (∃ xs,SqL K H1 a xs) /\ R (Itl K a) H1
def iTup (K : PySem.W.Frag) (tl : TE) : TI:=fun σ H R => tl σ H fun x H1 => ∃ a,x = .ref a /\ (∃ xs,SqT K H1 a xs) /\ R (Itt K a) H1
theorem pi_list {l : Expr} {tl : TE} (hl : PE X l tl) : PI X tg l (iList X.K tl):=by
 intro pins s σ H R I h
 refine thn (hl pins s σ H _ I h) fun v s1 ⟨x,H1,I1,r1,q1⟩ => ?_
 obtain ⟨a,e,⟨xs,hq⟩,q⟩:=q1
 subst e
 cases r1
 obtain ⟨its,rv,p,hz⟩:=I1.list hq
 refine wpAny_pyIter_list p.isList ?_
 refine ⟨s1.heap.objs.size,[s1.heap.objs.size],_,_,H1,rfl,I1.kept (t':=s1.toks) fun b o e => Heap.get?_push_of_some _ e,turn_list a _,⟨_,Heap.get?_push_size _ rfl,rfl,rfl⟩,fun b hb => ?_,q⟩
 have e : b = s1.heap.objs.size:=by simpa using hb
 subst e
 exact I1.fpOk (Nat.le_refl _) (I1.hok.fresh (Nat.le_refl _))
theorem pi_tup {l : Expr} {tl : TE} (hl : PE X l tl) : PI X tg l (iTup X.K tl):=by
 intro pins s σ H R I h
 refine thn (hl pins s σ H _ I h) fun v s1 ⟨x,H1,I1,r1,q1⟩ => ?_
 obtain ⟨a,e,⟨xs,hq⟩,q⟩:=q1
 subst e
 cases r1
 obtain ⟨its,rv,p,hz⟩:=I1.tuple hq
 refine wpAny_pyIter_tuple (show s1.heap.IsTuple a its.toArray from p) ?_
 refine ⟨s1.heap.objs.size,[s1.heap.objs.size],_,_,H1,rfl,I1.kept (t':=s1.toks) fun b o e => Heap.get?_push_of_some _ e,turn_tuple a _,⟨_,Heap.get?_push_size _ rfl,rfl,rfl⟩,fun b hb => ?_,q⟩
 have e : b = s1.heap.objs.size:=by simpa using hb
 subst e
 exact I1.fpOk (Nat.le_refl _) (I1.hok.fresh (Nat.le_refl _))
theorem range_it {pins : List (Addr × Obj)} {σ : St} {H : Hp} {s : Shared} {R : It -> Hp -> Prop} {E : Value -> Shared -> Prop} {lo hi : Int} {t u v : Tok} {tk : Nat} (I : Inv X pins σ H s) (h1 : -(2 ^ 62) <= lo) (h2 : lo < 2 ^ 62) (h3 : -(2 ^ 62) <= hi) (h4 : hi < 2 ^ 62)
  (q : R (Itr lo (hi - lo).toNat) H) : wpAny (model X.prog X.w) X.A (pyIter (.ref s.heap.objs.size)) (PIE X pins σ tg R) E { s with heap:=s.heap.push { cls:=.type "range",data:=.fields #[.int lo t,.int hi u,.int 1 v] },toks:=tk }:=by
 refine wpAny_pyIter_range (IsRange.new ..) (small_one h1 h2 h3 h4) ?_
 have I1 : Inv X pins σ H { s with heap:=s.heap.push { cls:=.type "range",data:=.fields #[.int lo t,.int hi u,.int 1 v] },toks:=tk }:=I.kept fun b o e => Heap.get?_push_of_some _ e
 refine ⟨(s.heap.push { cls:=.type "range",data:=.fields #[.int lo t,.int hi u,.int 1 v] }).objs.size,[(s.heap.push { cls:=.type "range",data:=.fields #[.int lo t,.int hi u,.int 1 v] }).objs.size],_,_,H,rfl,
  I1.kept (t':=tk) fun b o e => Heap.get?_push_of_some _ e,turn_range _ lo (hi - lo).toNat,?_,fun b hb => ?_,q⟩
 ·
  have e1 : lo + ((0 : Nat) : Int) * 1 = lo:=by simp
  have e2 : (((hi - lo).toNat : Nat) : Int) - ((0 : Nat) : Int) = Builtin.Range.rangeSize lo hi 1:=by rw [rangeSize_one]; split <;> omega
  show IsRangeIter _ _ (lo + ((0 : Nat) : Int) * 1) ((((hi - lo).toNat : Nat) : Int) - ((0 : Nat) : Int)) 1
  rw [e1,e2]
  exact Heap.get?_push_size _ rfl
 ·
  have e : b = (s.heap.push { cls:=.type "range",data:=.fields #[.int lo t,.int hi u,.int 1 v] }).objs.size:=by simpa using hb
  subst e
  exact I1.fpOk (Nat.le_refl _) (I1.hok.fresh (Nat.le_refl _))
def iRng1 (ta : TA) : TI:=fun σ H R => ta σ H fun vs H1 => ∃ j : Int,vs = [.int j] /\ -(2 ^ 62) <= j /\ j < 2 ^ 62 /\ R (Itr 0 j.toNat) H1
theorem pi_range1 {a : Expr} {ta : TA} {p pos : Pos} (hg : Gl X "range") (hm : X.mg "range" = none) (ha : PA X [a] ta) (hs : starEach [a] X.env = [(false,eval a X.env)]:=by rfl) : PI X tg (.Call (.Name "range" p) [a] [] pos) (iRng1 ta):=by
 intro pins s σ H R I h
 refine Call_ (ld_blt I hg hm boot_range (PyProof.Rows.callWith_type1 (thn (ha pos pins s σ H _ I h) fun us s1 ⟨vs,H1,I1,r1,q1⟩ => ?_) hs rfl))
 obtain ⟨j,e,q1,q2,q⟩:=q1
 subst e
 cases r1 with
 | cons r rr =>
  cases rr
  obtain ⟨t,rfl⟩:=r
  exact call_range_1 (range_it I1 (by omega) (by omega) q1 q2 (by simpa using q))
def tFor (wi : TI) (g : TG) (tb : TS) : TS:=fun D σ H => wi σ H fun J H1 => ∃ W : Nat -> Nat -> St -> Hp -> Prop,(∃ m,W 0 m σ H1) /\ ∀ i m σ H,W i m σ H ->
 (J.stop i H /\ D.nx σ H) \/ (J.go i H /\ ∃ N : St -> Hp -> Prop,(∀ σ' H',N σ' H' -> ∃ m',m' < m /\ W (i + 1) m' σ' H') /\ ∀ x H',J.yld i H x H' -> g x σ H' fun σ2 H2 => tb { D with nx:=N,ct:=N,bk:=D.nx } σ2 H2)
noncomputable def pinsAt (fp : List Addr) (h : Heap) : List (Addr × Obj):=fp.filterMap fun b => (h.get? b).map fun o => (b,o)
theorem mem_pinsAt {fp : List Addr} {h : Heap} {b : Addr} {o : Obj} (hb : b ∈ fp) (e : h.get? b = some o) : (b,o) ∈ pinsAt fp h:=List.mem_filterMap.mpr ⟨b,hb,by rw [e]; rfl⟩
theorem of_pinsAt {fp : List Addr} {h : Heap} {p : Addr × Obj} (hp : p ∈ pinsAt fp h) : p.1 ∈ fp /\ h.get? p.1 = some p.2:=by
 obtain ⟨b,hb,e⟩:=List.mem_filterMap.mp hp
 cases q : h.get? b with
 | none => rw [q] at e; cases e
 | some o =>
  rw [q] at e
  have e' : (b,o) = p:=Option.some.inj e
  subst e'
  exact ⟨hb,q⟩
theorem Inv.pinned {pins : List (Addr × Obj)} {σ : St} {H : Hp} {s : Shared} {fp : List Addr} (I : Inv X pins σ H s) (hf : ∀ b ∈ fp,FpOk X pins H b) (ho : ∀ b ∈ fp,∃ o,s.heap.get? b = some o /\ ∀ v,o.data ≠ .cell v) : Inv X (pins ++ pinsAt fp s.heap) σ H s :=
 I.pins_of fun p hp => (List.mem_append.mp hp).elim (fun z => I.pin p (List.mem_append_right _ z)) fun z => by
  obtain ⟨hb,e⟩:=of_pinsAt z
  obtain ⟨f0,f1,f2,_⟩:=hf p.1 hb
  obtain ⟨o,e',d⟩:=ho p.1 hb
  rw [e] at e'; cases e'
  exact ⟨e,f0,f1,f2,d⟩
theorem Inv.unpinned {pins pl : List (Addr × Obj)} {σ : St} {H : Hp} {s : Shared} (I : Inv X (pins ++ pl) σ H s) : Inv X pins σ H s:=I.pins_of fun p hp => I.pin p (List.mem_append_right _ (List.mem_append_left _ hp))
theorem ps_for {iter : Expr} {body : List Stmt} {wi : TI} {g : TG} {tb : TS} {pos : Pos} (hp : PassesOwn (model X.prog X.w) X.A X.env X.xe) (hc : X.calm = true) (hi : PI X tg iter wi) (hg : PG X tg g) (hb : PSs X body tb)
  (hs : ∀ x,foldedSetIterable iter X.env x = pure x:=by intro _; rfl) : PS X (.For tg iter body [] pos) (tFor wi g tb):=by
 intro pins s σ H D I h
 refine wpAny_For (thn (hi pins s σ H _ I h) fun v s1 h1 => thn h1 fun itv s2 h2 => ?_) hs
 obtain ⟨it,fp,tn,J,H2,e,I2,T,st2,f2,W,⟨m0,w0⟩,turn⟩:=h2
 subst e
 -- what stays true of the iterator's objects through the loop
 have stat : ∀ {H' : Hp},(∀ b ∈ fp,H' b = none) -> ∀ b ∈ fp,FpOk X pins H' b:=fun hn b hb => ⟨hn b hb,(f2 b hb).2⟩
 refine codeAny_forLoop_any (fun n s' => ∃ i σ' H',Inv X pins σ' H' s' /\ tn i s'.heap /\ (∀ b ∈ fp,H' b = none) /\ W i n σ' H') ?_ m0 ⟨0,σ,H2,I2,st2,fun b hb => (f2 b hb).1,w0⟩
 rintro n s3 ⟨i,σ3,H3,I3,st3,fr3,w3⟩
 rcases turn i n σ3 H3 w3 with ⟨stop,qn⟩ | ⟨go,N,hN,step⟩
 ·
  refine wpAny_passesOwn hp (thn (T.done X rfl rfl rfl hc i pins s3 σ3 H3 X.xe I3 (stat fr3) st3 stop) fun r s4 ⟨hr,I4⟩ => ?_)
  subst hr
  exact wpAny_execs_nil ⟨σ3,H3,I4,qn⟩
 ·
  refine wpAny_passesOwn hp (thn (T.item X rfl rfl rfl hc i pins s3 σ3 H3 X.xe I3 (stat fr3) st3 go) fun r s4 ⟨u,hr,h4⟩ => ?_)
  subst hr
  refine wpAny_passesOwn hp (thn h4 fun _ s5 ⟨x,H5,I5,r5,y5,st5,fr5⟩ => ?_)
  have I5':=I5.pinned (stat fr5) (T.obj _ _ st5)
  refine wpAny_passesOwn hp (thn (hg _ s5 σ3 H5 x u _ I5' r5 (step x H5 y5)) fun _ s6 ⟨σ6,H6,I6,q6⟩ => ?_)
  refine wpAny_passesOwn hp (thn (hb _ s6 σ6 H6 _ I6 q6) fun f s7 q7 => ?_)
  have again : ∀ {σ7 : St} {H7 : Hp},Inv X (pins ++ pinsAt fp s5.heap) σ7 H7 s7 -> N σ7 H7 -> ∃ m,m < n /\ ∃ i σ' H',Inv X pins σ' H' s7 /\ tn i s7.heap /\ (∀ b ∈ fp,H' b = none) /\ W i m σ' H':=fun {σ7 H7} I7 n7 => by
   obtain ⟨m',hm,w7⟩:=hN σ7 H7 n7
   refine ⟨m',hm,i + 1,σ7,H7,I7.unpinned,T.keep _ _ _ st5 fun b hb o e => (I7.pin (b,o) (List.mem_append_right _ (List.mem_append_right _ (mem_pinsAt hb e)))).1,fun b hb => ?_,w7⟩
   obtain ⟨o,e,d⟩:=T.obj _ _ st5 b hb
   exact (I7.pin (b,o) (List.mem_append_right _ (List.mem_append_right _ (mem_pinsAt hb e)))).2.1
  cases f with
  | next => obtain ⟨σ7,H7,I7,n7⟩:=q7; exact again I7 n7
  | cont => obtain ⟨σ7,H7,I7,n7⟩:=q7; exact again I7 n7
  | brk => obtain ⟨σ7,H7,I7,q7⟩:=q7; exact ⟨σ7,H7,I7.unpinned,q7⟩
  | ret v => obtain ⟨x7,σ7,H7,I7,r7,q7⟩:=q7; exact ⟨x7,σ7,H7,I7.unpinned,r7,q7⟩
end
end L2
namespace L2
open PySem PySem.Spec PyProof.Rows
abbrev R2:=V -> V -> Hp -> VK -> Prop
def OpR (X : Cx) (f : Value -> Value -> Sem Value) (r : R2) : Prop :=
 ∀ (pins : List (Addr × Obj)) (s : Shared) (σ : St) (H : Hp) (x y : V) (v u : Value) (Q : VK),Inv X pins σ H s -> RelV x v -> RelV y u -> r x y H Q ->
  wpAny (model X.prog X.w) X.A (f v u) (EP X pins σ Q) X.xe s
def CallR (X : Cx) (f : Value) (r : List V -> Hp -> VK -> Prop) : Prop :=
 ∀ (pins : List (Addr × Obj)) (s : Shared) (σ : St) (H : Hp) (xs : List V) (us : List Value) (Q : VK),Inv X pins σ H s -> Vals xs us -> r xs H Q ->
  wpAny (model X.prog X.w) X.A (call f us) (EP X pins σ Q) X.xe s
def tOp (r : R2) (ta tb : TE) : TE:=fun σ H Q => ta σ H fun x H1 => tb σ H1 fun y H2 => r x y H2 Q
def rI (C : Int -> Int -> Prop) (g : Int -> Int -> V) : R2:=fun x y H Q => ∃ i j,x = .int i /\ y = .int j /\ C i j /\ Q (g i j) H
def rI0 (g : Int -> Int -> V) : R2:=fun x y H Q => ∃ i j,x = .int i /\ y = .int j /\ Q (g i j) H
section
variable {X : Cx} {a b c : Expr} {ta tb tc : TE} {pos : Pos}
theorem binT (ha : PE X a ta) (hb : PE X b tb) {pins : List (Addr × Obj)} {s : Shared} {σ : St} {H : Hp} {R : V -> V -> Hp -> Prop} (I : Inv X pins σ H s)
  (h : ta σ H fun x H1 => tb σ H1 fun y H2 => R x y H2) {Q : Value -> Shared -> Prop} {f : Value -> Value -> Sem Value}
  (hf : ∀ v u s2 x y H2,Inv X pins σ H2 s2 -> RelV x v -> RelV y u -> R x y H2 -> wpAny (model X.prog X.w) X.A (f v u) Q X.xe s2) :
  wpAny (model X.prog X.w) X.A (eval a X.env) (fun v s₁ => wpAny (model X.prog X.w) X.A (eval b X.env) (fun u s₂ => wpAny (model X.prog X.w) X.A (f v u) Q X.xe s₂) X.xe s₁) X.xe s:=by
 refine thn (ha pins s σ H _ I h) fun v s1 ⟨x,H1,I1,r1,q1⟩ => ?_
 refine thn (hb pins s1 σ H1 _ I1 q1) fun u s2 ⟨y,H2,I2,r2,q2⟩ => ?_
 exact hf v u s2 x y H2 I2 r1 r2 q2
theorem pe_op {op : Operator} {r : R2} (ho : OpR X (binaryOp op) r) (ha : PE X a ta) (hb : PE X b tb) : PE X (.BinOp a op b pos) (tOp r ta tb):=by
 intro pins s σ H Q I h
 exact wpAny_BinOp (binT ha hb I h fun v u s2 x y H2 I2 rx ry q => ho pins s2 σ H2 x y v u Q I2 rx ry q)
theorem opI {f : Value -> Value -> Sem Value} {C : Int -> Int -> Prop} {g : Int -> Int -> Int}
  (rule : ∀ (i j : Int) (t u : Tok) (s : Shared) (Q : Value -> Shared -> Prop) (E : Value -> Shared -> Prop),C i j -> Q (.int (g i j) s.toks) { s with toks:=s.toks + 1 } -> wpAny (model X.prog X.w) X.A (f (.int i t) (.int j u)) Q E s) :
  OpR X f (rI C fun i j => .int (g i j)):=by
 intro pins s σ H x y v u Q I rx ry h
 obtain ⟨i,j,rfl,rfl,hc,q⟩:=h
 obtain ⟨t,rfl⟩:=rx
 obtain ⟨t',rfl⟩:=ry
 exact rule i j t t' s _ _ hc ⟨.int (g i j),H,I.tok _,⟨_,rfl⟩,q⟩
theorem opI0 {f : Value -> Value -> Sem Value} {g : Int -> Int -> Int}
  (rule : ∀ (i j : Int) (t u : Tok) (s : Shared) (Q : Value -> Shared -> Prop) (E : Value -> Shared -> Prop),Q (.int (g i j) s.toks) { s with toks:=s.toks + 1 } -> wpAny (model X.prog X.w) X.A (f (.int i t) (.int j u)) Q E s) :
  OpR X f (rI0 fun i j => .int (g i j)):=by
 intro pins s σ H x y v u Q I rx ry h
 obtain ⟨i,j,rfl,rfl,q⟩:=h
 obtain ⟨t,rfl⟩:=rx
 obtain ⟨t',rfl⟩:=ry
 exact rule i j t t' s _ _ ⟨.int (g i j),H,I.tok _,⟨_,rfl⟩,q⟩
theorem opB0 {f : Value -> Value -> Sem Value} {g : Int -> Int -> Bool}
  (rule : ∀ (i j : Int) (t u : Tok) (s : Shared) (Q : Value -> Shared -> Prop) (E : Value -> Shared -> Prop),Q (.bool (g i j)) s -> wpAny (model X.prog X.w) X.A (f (.int i t) (.int j u)) Q E s) :
  OpR X f (rI0 fun i j => .bl (g i j)):=by
 intro pins s σ H x y v u Q I rx ry h
 obtain ⟨i,j,rfl,rfl,q⟩:=h
 obtain ⟨t,rfl⟩:=rx
 obtain ⟨t',rfl⟩:=ry
 exact rule i j t t' s _ _ ⟨.bl (g i j),H,I,rfl,q⟩
def CPow (i j : Int) : Prop:=0 <= j /\ j <= 1000000 /\ i.natAbs < 2 ^ 64
def CMul (i j : Int) : Prop:=(-(2 ^ 64) < i /\ i < 2 ^ 64) \/ (-(2 ^ 64) < j /\ j < 2 ^ 64)
theorem CMul.ok {i j : Int} (h : CMul i j) : IntMulOk i j:=by
 rcases h with ⟨h1,h2⟩ | ⟨h1,h2⟩
 ·
  exact .of_left (intBits_le_64 h1 h2)
 ·
  exact .of_right (intBits_le_64 h1 h2)
theorem op_add : OpR X (binaryOp .Add) (rI0 fun i j => .int (i + j)):=opI0 fun _ _ _ _ _ _ _ q => add_int q
theorem op_sub : OpR X (binaryOp .Sub) (rI0 fun i j => .int (i - j)):=opI0 fun _ _ _ _ _ _ _ q => sub_int q
theorem op_mul : OpR X (binaryOp .Mult) (rI CMul fun i j => .int (i * j)):=opI fun _ _ _ _ _ _ _ hc q => mul_int q hc.ok
theorem op_mod : OpR X (binaryOp .Mod) (rI (fun _ j => 0 < j) fun i j => .int (i % j)):=opI fun i j _ _ _ _ _ hc q => by
 have h1 : (0 : Int) < j:=hc
 exact mod_int' (by omega) (by rw [Int.fmod_eq_emod_of_nonneg i (by omega)]; exact q)
theorem op_pow : OpR X (binaryOp .Pow) (rI CPow fun i j => .int (i ^ j.toNat)):=opI fun _ _ _ _ _ _ _ hc q => pow_int_small hc.1 hc.2.1 hc.2.2 q
theorem op_shl : OpR X (binaryOp .LShift) (rI CPow fun i j => .int (i * 2 ^ j.toNat)):=opI fun _ _ _ _ _ _ _ hc q => lshift_int_small hc.1 hc.2.1 hc.2.2 q
end
noncomputable def scal : V -> V -> Bool
 | .non,.non => true | .non,.int _ => true | .int _,.non => true | .non,.bl _ => true | .bl _,.non => true | .non,.str _ => true | .str _,.non => true
 | .int _,.int _ => true | .bl _,.bl _ => true | .str _,.str _ => true | .byt _,.byt _ => true
 | .int _,.str _ => true | .str _,.int _ => true | .bl _,.str _ => true | .str _,.bl _ => true
 | _,_ => false
def rEq : R2:=fun x y H Q => scal x y = true /\ Q (.bl (decide (x = y))) H
def rNe : R2:=fun x y H Q => scal x y = true /\ Q (.bl (!decide (x = y))) H
theorem dec_int {i j : Int} : decide (V.int i = V.int j) = (i == j):=by
 rw [Bool.eq_iff_iff]
 simp
theorem dec_bl {i j : Bool} : decide (V.bl i = V.bl j) = (i == j):=by
 rw [Bool.eq_iff_iff]
 simp
theorem dec_str {i j : Str} : decide (V.str i = V.str j) = (i == j):=by
 rw [Bool.eq_iff_iff]
 simp
theorem dec_byt {i j : Array UInt8} : decide (V.byt i = V.byt j) = (i.toList == j.toList):=by
 rw [Bool.eq_iff_iff]
 cases i
 cases j
 simp
section
variable {X : Cx} {a b c : Expr} {ta tb tc : TE} {pos : Pos}
theorem fin_bl {pins : List (Addr × Obj)} {σ : St} {H : Hp} {s : Shared} {Q : VK} {k k' : Bool} (I : Inv X pins σ H s) (q : Q (.bl k) H) (e : k = k') : EP X pins σ Q (.bool k') s:=by
 subst e
 exact ⟨.bl k,H,I,rfl,q⟩
theorem op_eq : OpR X (compareOp .Eq) rEq:=by
 intro pins s σ H x y v u Q I rx ry h
 obtain ⟨hs,q⟩:=h
 cases x with
 | non =>
  cases rx
  cases y with
  | non => cases ry; exact PySem.EqNone.eq_none_none (fin_bl I q (by simp))
  | bl j => cases ry; exact PySem.EqNone.eq_none_bool (fin_bl I q (by simp))
  | int j => obtain ⟨t',rfl⟩:=ry; exact PySem.EqNone.eq_none_int (fin_bl I q (by simp))
  | str j => obtain ⟨t',rfl⟩:=ry; exact PySem.EqNone.eq_none_str (fin_bl I q (by simp))
  | _ => exact absurd (show false = true from hs) Bool.false_ne_true
 | bl i =>
  cases rx
  cases y with
  | non => cases ry; exact PySem.EqNone.eq_bool_none (fin_bl I q (by simp))
  | bl j => cases ry; exact eq_bool (fin_bl I q dec_bl)
  | str j => obtain ⟨t',rfl⟩:=ry; exact PySem.EqMixed.eq_bool_str (fin_bl I q (by simp))
  | _ => exact absurd (show false = true from hs) Bool.false_ne_true
 | int i =>
  obtain ⟨t,rfl⟩:=rx
  cases y with
  | non => cases ry; exact PySem.EqNone.eq_int_none (fin_bl I q (by simp))
  | int j => obtain ⟨t',rfl⟩:=ry; exact eq_int (fin_bl I q dec_int)
  | str j => obtain ⟨t',rfl⟩:=ry; exact PySem.EqMixed.eq_int_str (fin_bl I q (by simp))
  | _ => exact absurd (show false = true from hs) Bool.false_ne_true
 | str i =>
  obtain ⟨t,rfl⟩:=rx
  cases y with
  | non => cases ry; exact PySem.EqNone.eq_str_none (fin_bl I q (by simp))
  | bl j => cases ry; exact PySem.EqMixed.eq_str_bool (fin_bl I q (by simp))
  | int j => obtain ⟨t',rfl⟩:=ry; exact PySem.EqMixed.eq_str_int (fin_bl I q (by simp))
  | str j => obtain ⟨t',rfl⟩:=ry; exact eq_str (fin_bl I q dec_str)
  | _ => exact absurd (show false = true from hs) Bool.false_ne_true
 | byt i =>
  obtain ⟨t,rfl⟩:=rx
  cases y with
  | byt j => obtain ⟨t',rfl⟩:=ry; exact PySem.W.eq_bytes (fin_bl I q dec_byt)
  | _ => exact absurd (show false = true from hs) Bool.false_ne_true
 | _ => cases y <;> exact absurd (show false = true from hs) Bool.false_ne_true
theorem op_ne : OpR X (compareOp .NotEq) rNe:=by
 intro pins s σ H x y v u Q I rx ry h
 obtain ⟨hs,q⟩:=h
 cases x with
 | non =>
  cases rx
  cases y with
  | non => cases ry; exact PySem.EqNone.ne_none_none (fin_bl I q (by simp))
  | bl j => cases ry; exact PySem.EqNone.ne_none_bool (fin_bl I q (by simp))
  | int j => obtain ⟨t',rfl⟩:=ry; exact PySem.EqNone.ne_none_int (fin_bl I q (by simp))
  | str j => obtain ⟨t',rfl⟩:=ry; exact PySem.EqNone.ne_none_str (fin_bl I q (by simp))
  | _ => exact absurd (show false = true from hs) Bool.false_ne_true
 | bl i =>
  cases rx
  cases y with
  | non => cases ry; exact PySem.EqNone.ne_bool_none (fin_bl I q (by simp))
  | bl j => cases ry; exact ne_bool (fin_bl I q (congrArg not dec_bl))
  | str j => obtain ⟨t',rfl⟩:=ry; exact PySem.EqMixed.ne_bool_str (fin_bl I q (by simp))
  | _ => exact absurd (show false = true from hs) Bool.false_ne_true
 | int i =>
  obtain ⟨t,rfl⟩:=rx
  cases y with
  | non => cases ry; exact PySem.EqNone.ne_int_none (fin_bl I q (by simp))
  | int j => obtain ⟨t',rfl⟩:=ry; exact ne_int (fin_bl I q (congrArg not dec_int))
  | str j => obtain ⟨t',rfl⟩:=ry; exact PySem.EqMixed.ne_int_str (fin_bl I q (by simp))
  | _ => exact absurd (show false = true from hs) Bool.false_ne_true
 | str i =>
  obtain ⟨t,rfl⟩:=rx
  cases y with
  | non => cases ry; exact PySem.EqNone.ne_str_none (fin_bl I q (by simp))
  | bl j => cases ry; exact PySem.EqMixed.ne_str_bool (fin_bl I q (by simp))
  | int j => obtain ⟨t',rfl⟩:=ry; exact PySem.EqMixed.ne_str_int (fin_bl I q (by simp))
  | str j => obtain ⟨t',rfl⟩:=ry; exact ne_str (fin_bl I q (congrArg not dec_str))
  | _ => exact absurd (show false = true from hs) Bool.false_ne_true
 | byt i =>
  obtain ⟨t,rfl⟩:=rx
  cases y with
  | byt j => obtain ⟨t',rfl⟩:=ry; exact PySem.W.ne_bytes (fin_bl I q (congrArg not dec_byt))
  | _ => exact absurd (show false = true from hs) Bool.false_ne_true
 | _ => cases y <;> exact absurd (show false = true from hs) Bool.false_ne_true
theorem op_lt : OpR X (compareOp .Lt) (rI0 fun i j => .bl (decide (i < j))):=opB0 fun _ _ _ _ _ _ _ q => lt_int q
theorem op_gt : OpR X (compareOp .Gt) (rI0 fun i j => .bl (decide (j < i))):=opB0 fun _ _ _ _ _ _ _ q => gt_int q
theorem op_in_str : OpR X (compareOp .In) (fun x y H Q => ∃ i j,x = .str i /\ y = .str j /\ Q (.bl (!(Builtin.Str.occurrences j i 0 j.length 1).isEmpty)) H):=by
 intro pins s σ H x y v u Q I rx ry h
 obtain ⟨i,j,rfl,rfl,q⟩:=h
 obtain ⟨t,rfl⟩:=rx
 obtain ⟨t',rfl⟩:=ry
 exact in_str (fin_bl I q rfl)
theorem op_notin_str : OpR X (compareOp .NotIn) (fun x y H Q => ∃ i j,x = .str i /\ y = .str j /\ Q (.bl (!(!(Builtin.Str.occurrences j i 0 j.length 1).isEmpty))) H):=by
 intro pins s σ H x y v u Q I rx ry h
 obtain ⟨i,j,rfl,rfl,q⟩:=h
 obtain ⟨t,rfl⟩:=rx
 obtain ⟨t',rfl⟩:=ry
 exact notIn_str (fin_bl I q rfl)
theorem OpR.or {f : Value -> Value -> Sem Value} {r r' : R2} (h : OpR X f r) (h' : OpR X f r') : OpR X f (fun x y H Q => r x y H Q \/ r' x y H Q):=by
 intro pins s σ H x y v u Q I rx ry q
 rcases q with q | q
 ·
  exact h pins s σ H x y v u Q I rx ry q
 ·
  exact h' pins s σ H x y v u Q I rx ry q
theorem nomark (b : Expr) {op : CmpOp} (h : op ≠ .In:=by decide) (h2 : op ≠ .NotIn:=by decide) : behindInMarks op b = false:=by
 have e1 : (op == CmpOp.In) = false:=by cases op <;> first | rfl | exact absurd rfl h
 have e2 : (op == CmpOp.NotIn) = false:=by cases op <;> first | rfl | exact absurd rfl h2
 cases b <;> simp [behindInMarks,e1,e2]
theorem pe_cmpR {op : CmpOp} {r : R2} (ho : OpR X (compareOp op) r) (ha : PE X a ta) (hb : PE X b tb) (hm : behindInMarks op b = false) : PE X (.Compare a [op] [b] pos) (tOp r ta tb):=by
 intro pins s σ H Q I h
 exact wpAny_Compare1 (binT ha hb I h fun v u s2 x y H2 I2 rx ry q => ho pins s2 σ H2 x y v u Q I2 rx ry q) hm
def tTest (t : TE) : TT:=fun σ H Q => t σ H fun x H' => ∃ k,x = .bl k /\ Q k H'
theorem pt_cmpR {op : CmpOp} {r : R2} (ho : OpR X (compareOp op) r) (ha : PE X a ta) (hb : PE X b tb) (hm : behindInMarks op b = false) : PT X (.Compare a [op] [b] pos) (tTest (tOp r ta tb)):=by
 intro pins s σ H Q I h
 refine wpAny_isTrue_Compare1 (thn (ha pins s σ H _ I h) fun v s1 ⟨x,H1,I1,r1,q1⟩ => thn (hb pins s1 σ H1 _ I1 q1) fun u s2 ⟨y,H2,I2,r2,q2⟩ =>
  thn (ho pins s2 σ H2 x y v u _ I2 r1 r2 q2) fun c s3 ⟨z,H3,I3,r3,k,e,q3⟩ => ?_) hm
 subst e
 cases r3
 exact wpAny_truthy_bool ⟨H3,I3,q3⟩
theorem line63 : (sizeLine : Nat) < 2 ^ 63:=by rw [sizeLine_eq]; decide
theorem op_add_str : OpR X (binaryOp .Add) (fun x y H Q => ∃ i j,x = .str i /\ y = .str j /\ i.length + j.length <= sizeLine /\ Q (.str (i ++ j)) H):=by
 intro pins s σ H x y v u Q I rx ry h
 obtain ⟨i,j,rfl,rfl,hz,q⟩:=h
 obtain ⟨t,rfl⟩:=rx
 obtain ⟨t',rfl⟩:=ry
 exact add_str (fun t' tk => ⟨.str (i ++ j),H,I.tok _,⟨_,rfl⟩,q⟩) hz
theorem vals1 {x : V} {us : List Value} (r : Vals [x] us) : ∃ u,us = [u] /\ RelV x u:=by
 cases r with
 | cons r1 r2 => cases r2; exact ⟨_,rfl,r1⟩
theorem vals2 {x y : V} {us : List Value} (r : Vals [x,y] us) : ∃ u w',us = [u,w'] /\ RelV x u /\ RelV y w':=by
 cases r with
 | cons r1 r2 =>
  cases r2 with
  | cons r3 r4 => cases r4; exact ⟨_,_,rfl,r1,r3⟩
theorem call_int1 : CallR X (.type "int") (fun xs H Q => (∃ i,xs = [.int i] /\ Q (.int i) H) \/ ∃ k,xs = [.bl k] /\ Q (.int (if k then 1 else 0)) H):=by
 intro pins s σ H xs us Q I r h
 rcases h with ⟨i,rfl,q⟩ | ⟨k,rfl,q⟩
 ·
  obtain ⟨u,rfl,t,rfl⟩:=vals1 r
  exact call_int_int ⟨.int i,H,I,⟨_,rfl⟩,q⟩
 ·
  obtain ⟨u,rfl,r1⟩:=vals1 r
  cases r1
  exact call_int_bool ⟨.int (if k then 1 else 0),H,I.tok _,⟨_,rfl⟩,q⟩
end
end L2
namespace L2
open PySem PySem.Spec PyProof.Rows
structure ObjM (h : Heap) (x dx C : Addr) (mA : Str -> Option Value) : Prop where
 obj : h.get? x = some (PySem.W.instObj C dx)
 ns : h.Ns1 dx mA
 ne : dx ≠ x
theorem lookIn_ns {h : Heap} {dx : Addr} {mA : Str -> Option Value} (n : h.Ns1 dx mA) : ∃ od,h.get? dx = some od /\ ∀ name,PySem.W.lookIn name od = some (mA name):=by
 obtain ⟨o,es,ep,ho,hd,hk,_,hm⟩:=n
 refine ⟨o,ho,fun name => ?_⟩
 have e:=hm name
 unfold nsFind findBy at e
 rw [<- Array.find?_toList] at e
 unfold PySem.W.lookIn
 rw [hd]
 dsimp only
 split
 ·
  rename_i y q
  rw [q] at e
  exact congrArg some e
 ·
  rename_i q
  rw [q] at e
  have a : es.toList.any (·.refKey) = false:=by
   rw [List.any_eq_false]
   intro y hy
   obtain ⟨z,t,hkey⟩:=hk y (Array.mem_toList_iff.mp hy)
   simp [DictEntry.refKey,hkey]
  have a' : ¬ es.toList.any (·.refKey) = true:=by rw [a]; exact Bool.false_ne_true
  rw [if_neg a']
  exact congrArg some e
theorem ObjM.look {h : Heap} {x dx C : Addr} {mA : Str -> Option Value} (I : ObjM h x dx C mA) : ∃ od,PySem.W.InstAt h x (PySem.W.instObj C dx) C (some od) /\ ∀ name,PySem.W.lookIn name od = some (mA name) :=
 let ⟨od,ho,hl⟩:=lookIn_ns I.ns
 ⟨od,⟨I.obj,rfl,rfl,ho⟩,hl⟩
section
variable {prog : Program} {w : World} {A : Around} {E : Value -> Shared -> Prop} {s : Shared} {K : PySem.W.Frag} {x dx C f : Addr} {mA : Str -> Option Value} {name : Str} {v : Value}
end
theorem RelO.some_of {v : V} {o : Option Value} (r : RelO (some v) o) : ∃ u,o = some u /\ RelV v u:=by
 cases o with
 | none => exact (show False from r).elim
 | some u => exact ⟨u,rfl,r⟩
theorem RelO.none_of {o : Option Value} (r : RelO none o) : o = none:=by
 cases o with
 | none => rfl
 | some u => exact (show False from r).elim
section
variable {P : Program} {w : World} {H H' : Hp} {h h' : Heap} {a C dx : Addr} {fs fs' : List (Str × V)}
theorem ins_get (hok : HOk P w H h) (e : H a = some (.ins C dx fs)) : ∃ mA,ObjM h a dx C mA /\ (∀ f,RelO (fs.lookup f) (mA f)) /\ PySem.Within mA (fs.map (·.1)) /\ fs.length <= 1000 /\ H dx = some (.own a):=by
 obtain ⟨d,z,ne,ob,mA,n,r,q⟩:=(show ObjOk P w H h a (.ins C dx fs) from hok a _ e)
 exact ⟨mA,⟨ob,n,ne⟩,r,q,z,d⟩
end
structure Cls (K : PySem.W.Frag) (C : Addr) : Prop where
 pg : PySem.W.plainGet K C Str.empty = true
 hd : PySem.W.hasDictIn K C = true
 po : PySem.W.plainOver K C = true
 sa : PySem.W.findIn K (.ref C) "__setattr__" = some (some (.builtin "object.__setattr__"))
theorem Cls.get {K : PySem.W.Frag} {C : Addr} (c : Cls K C) (f : Str) : PySem.W.plainGet K C f = true:=c.pg
section
variable {X : Cx} {pins : List (Addr × Obj)} {σ : St} {H : Hp} {s : Shared} {a C dx : Addr} {fs : List (Str × V)} {f : Str} {v : V} {A : Around} {E : Value -> Shared -> Prop}
theorem Inv.made (I : Inv X pins σ H s) : Inv X pins σ (upd (upd H s.heap.objs.size (.own (s.heap.objs.size + 1))) (s.heap.objs.size + 1) (.ins C s.heap.objs.size []))
  { s with heap:=(s.heap.push PySem.W.emptyDict).push (PySem.W.instObj C s.heap.objs.size) }:=by
 have e1 : (s.heap.push PySem.W.emptyDict).get? s.heap.objs.size = some PySem.W.emptyDict:=Heap.get?_push_size s.heap rfl
 have e2 : ((s.heap.push PySem.W.emptyDict).push (PySem.W.instObj C s.heap.objs.size)).get? (s.heap.objs.size + 1) = some (PySem.W.instObj C s.heap.objs.size):=by
  have:=Heap.get?_push_size (s.heap.push PySem.W.emptyDict) (o:=PySem.W.instObj C s.heap.objs.size) rfl
  rwa [Heap.size_push] at this
 have e3 : (s.heap.push PySem.W.emptyDict).Ns s.heap.objs.size (fun _ => none):=⟨PySem.W.emptyDict,#[],_,e1,rfl,(fun e he => absurd he (by simp)),fun _ => rfl⟩
 have I1:=I.laid (a:=s.heap.objs.size) (o:=.own (s.heap.objs.size + 1)) (h':=s.heap.push PySem.W.emptyDict) (t':=s.toks) (fun b u q => Heap.get?_push_of_some _ q) (Nat.le_refl _) ⟨_,e1⟩
 refine I1.laid (a:=s.heap.objs.size + 1) (o:=.ins C s.heap.objs.size []) (t':=s.toks) (fun b u q => Heap.get?_push_of_some _ q) (Nat.le_of_eq (Heap.size_push _ _)) ?_
 have ne : s.heap.objs.size ≠ s.heap.objs.size + 1:=Nat.ne_of_lt (Nat.lt_succ_self _)
 refine ⟨by rw [upd_ne ne,upd_same],Nat.zero_le _,ne,e2,fun _ => none,(Heap.Ns1.of_empty e3).at fun o q => Heap.get?_push_of_some _ q,fun _ => True.intro,fun y hy => absurd rfl hy⟩
end
section
variable {X : Cx} {o e value : Expr} {f : Str} {pos pos' tpos : Pos} {ta tv : TE}
end
section
variable {X : Cx} {pins : List (Addr × Obj)} {σ : St} {H : Hp} {s : Shared} {A : Around} {E : Value -> Shared -> Prop} {Q : Value -> Shared -> Prop} {c : Value} {b : Bool}
inductive TyOf (K : PySem.W.Frag) (H : Hp) : V -> Value -> Prop where
 | non : TyOf K H .non (.type "NoneType")
 | bl (x : Bool) : TyOf K H (.bl x) (.type "bool")
 | int (i : Int) : TyOf K H (.int i) (.type "int")
 | str (x : Str) : TyOf K H (.str x) (.type "str")
 | flt (x : UInt64) : TyOf K H (.flt x) (.type "float")
 | lst {a : Addr} {xs : List V} (e : H a = some (.lst xs)) : TyOf K H (.ref a) (.type "list")
 | frz {a : Addr} {o : Obj} {xs : List V} (e : H a = some (.frz o (.lst xs))) : TyOf K H (.ref a) (.type "list")
 | tup {a : Addr} {xs : List V} (e : H a = some (.tup xs)) : TyOf K H (.ref a) (.type "tuple")
 | dK {a : Addr} {kvs : List (Key × V)} (e : H a = some (.dK kvs)) : TyOf K H (.ref a) (.type "dict")
 | dT {a : Addr} {kvs : List (List Key × V)} (e : H a = some (.dT kvs)) : TyOf K H (.ref a) (.type "dict")
 | ins {a C dx : Addr} {fs : List (Str × V)} (e : H a = some (.ins C dx fs)) (cl : Cls K C) (ha : PySem.W.findIn K (.ref C) "__class__" = some (some (.builtin "object.__class__")))
   (hn : PySem.W.specialIn K (.builtin "object.__class__") "__get__" = some (some (.builtin "getset_descriptor.__get__"))) (htk : PySem.W.takesIn K (.builtin "object.__class__") = some true)
   (hm : PySem.W.mroIn K C (.type "object") = some true) : TyOf K H (.ref a) (.ref C)
theorem isinst_ok {x : V} {u t : Value} (I : Inv X pins σ H s) (rx : RelV x u) (ty : TyOf X.K H x t) (e : PySem.W.kitOne X.K t c = some b) (h : ∀ tk,Q (.bool b) { s with toks:=tk }) :
  wpAny (model X.prog X.w) A (call (.builtin "isinstance") [u,c]) Q E s:=by
 cases ty with
 | non => cases (show u = Value.none from rx); exact PySem.W.kia_one PySem.W.kitx_none I.kIn True.intro e (fun z => nomatch z) h
 | bl y => cases (show u = Value.bool y from rx); exact PySem.W.kia_one PySem.W.kitx_bool I.kIn True.intro e (fun z => nomatch z) h
 | int i => obtain ⟨t,q⟩:=(show ∃ t,u = Value.int i t from rx); cases q; exact PySem.W.kia_one PySem.W.kitx_int I.kIn True.intro e (fun z => nomatch z) h
 | str y => obtain ⟨t,q⟩:=(show ∃ t,u = Value.str y t from rx); cases q; exact PySem.W.kia_one PySem.W.kitx_str I.kIn True.intro e (fun z => nomatch z) h
 | flt y => obtain ⟨t,q⟩:=(show ∃ t,u = Value.float y t from rx); cases q; exact PySem.W.kia_one PySem.W.kitx_float I.kIn True.intro e (fun z => nomatch z) h
 | @lst a xs ea =>
  cases (show u = Value.ref a from rx)
  obtain ⟨_,_,n,_,h1⟩:=(show ObjOk X.prog X.w H s.heap a (.lst xs) from I.hok a _ ea)
  exact PySem.W.kia_one PySem.W.kitx_list I.kIn ⟨_,h1,rfl⟩ e (fun z => nomatch z) h
 | @frz a ob xs ea =>
  cases (show u = Value.ref a from rx)
  obtain ⟨_,_,_,n,_,h1⟩:=(show ObjOk X.prog X.w H s.heap a (.frz ob (.lst xs)) from I.hok a _ ea)
  exact PySem.W.kia_one PySem.W.kitx_list I.kIn ⟨_,h1,rfl⟩ e (fun z => nomatch z) h
 | @tup a xs ea =>
  cases (show u = Value.ref a from rx)
  obtain ⟨_,_,_,p⟩:=(show ObjOk X.prog X.w H s.heap a (.tup xs) from I.hok a _ ea)
  obtain ⟨o,h1,h2,_⟩:=p
  exact PySem.W.kia_one PySem.W.kitx_tuple I.kIn ⟨o,h1,h2⟩ e (fun z => nomatch z) h
 | @dK a kvs ea =>
  cases (show u = Value.ref a from rx)
  obtain ⟨_,_,vs,_,p⟩:=(show ObjOk X.prog X.w H s.heap a (.dK kvs) from I.hok a _ ea)
  obtain ⟨o,es,ep,h1,h2,_⟩:=p
  exact PySem.W.kia_one PySem.W.kitx_dict I.kIn ⟨o,h1,h2.1⟩ e (fun z => nomatch z) h
 | @dT a kvs ea =>
  cases (show u = Value.ref a from rx)
  obtain ⟨_,_,xs,_,o,es,ep,h1,h2,_⟩:=(show ObjOk X.prog X.w H s.heap a (.dT kvs) from I.hok a _ ea)
  exact PySem.W.kia_one PySem.W.kitx_dict I.kIn ⟨o,h1,h2.1⟩ e (fun z => nomatch z) h
 | @ins a C dx fs ea cl ha hn htk hm =>
  cases (show u = Value.ref a from rx)
  obtain ⟨mA,O,_⟩:=ins_get I.hok ea
  obtain ⟨od,J,_⟩:=O.look
  exact PySem.W.kia_one (PySem.W.kitx_own (cl.get _) cl.hd ha hn htk hm) I.kIn J e (fun z => nomatch z) h
end
end L2
namespace L2
open PySem PySem.Spec PyProof.Rows
structure Room (k : Nat) (A : Around) : Prop where
 hd : A.handled = none
 dp : A.depth + 3 * k + 5 < recursionLimit
 un : A.units + 16 * k + 200 < cLine
 gd : A.guards = some []
theorem Room.mono {j k : Nat} {A : Around} (r : Room k A) (h : j <= k) : Room j A:=⟨r.hd,by have:=r.dp; omega,by have:=r.un; omega,r.gd⟩
theorem Room.deeper {k : Nat} {A : Around} (r : Room (k + 1) A) (env : Env) : Room k (A.deeper env) :=
 ⟨r.hd,by have:=r.dp; show A.depth + 1 + 3 * k + 5 < _; omega,by have:=r.un; show A.units + 3 + 16 * k + 200 < _; omega,r.gd⟩
theorem Room.in1 {k : Nat} {A : Around} (r : Room (k + 1) A) : Room k A.in1 :=
 ⟨r.hd,by have:=r.dp; show A.depth + 3 * k + 5 < _; omega,by have:=r.un; show A.units + 1 + 16 * k + 200 < _; omega,r.gd⟩
theorem Room.depth {k : Nat} {A : Around} (r : Room k A) : A.depth < recursionLimit:=by have:=r.dp; omega
theorem Room.units {k : Nat} {A : Around} (r : Room k A) : A.units + 64 < cLine:=by have:=r.un; omega
def tNil : TA:=fun _ H Q => Q [] H
def tCons (ta : TE) (tr : TA) : TA:=fun σ H Q => ta σ H fun x H1 => tr σ H1 fun xs H2 => Q (x :: xs) H2
section
variable {X : Cx} {e : Expr} {es : List Expr} {te : TE} {t : TA} {pos : Pos}
theorem pa_nil : PA X [] tNil:=fun _ _ _ _ H Q I h => Calls.spliced_nil ⟨[],H,I,.nil,h⟩
theorem pa_cons (ha : PE X e te) (hr : PA X es t) (hs : starEach (e :: es) X.env = (false,eval e X.env) :: starEach es X.env:=by rfl) : PA X (e :: es) (tCons te t):=by
 intro pos pins s σ H Q I h
 rw [hs]
 show wpAny _ _ (spliced ((false,eval e X.env) :: backTo pos (starEach es X.env))) _ _ s
 refine Calls.spliced_cons (thn (ha pins s σ H _ I h) fun u s1 ⟨x,H1,I1,r1,q1⟩ => ?_)
 exact thn (hr pos pins s1 σ H1 _ I1 q1) fun us s2 ⟨xs,H2,I2,r2,q2⟩ => ⟨x :: xs,H2,I2,.cons r1 r2,q2⟩
def tTup (t : TA) : TE:=fun σ H Q => t σ H fun xs H1 => xs.length <= sizeLine /\ ∀ p,H1 p = none -> Q (.ref p) (upd H1 p (.tup xs))
def tLst (t : TA) : TE:=fun σ H Q => t σ H fun xs H1 => xs.length <= sizeLine /\ ∀ p,H1 p = none -> Q (.ref p) (upd H1 p (.lst xs))
theorem pe_tup {x1} (h : PA X es t) : PE X (.Tuple es x1 pos) (tTup t):=by
 intro pins s σ H Q I hq
 refine wpAny_Tuple_spliced (thn (h pos pins s σ H _ I hq) fun us s1 ⟨xs,H1,I1,r,z,q⟩ => ⟨by rw [<- r.length]; exact z,?_⟩)
 have hf : H1 s1.heap.objs.size = none:=I1.hok.fresh (Nat.le_refl _)
 refine ⟨.ref s1.heap.objs.size,upd H1 s1.heap.objs.size (.tup xs),I1.laid (t':=s1.toks) (fun b u e => Heap.get?_push_of_some _ e) (Nat.le_refl _) ?_,rfl,q _ hf⟩
 exact ⟨z,us,r,⟨_,Heap.get?_push_size _ rfl,rfl,_,rfl,rfl⟩⟩
theorem pe_lst (h : PA X es t) : PE X (.List es pos) (tLst t):=by
 intro pins s σ H Q I hq
 refine wpAny_List_spliced (thn (h pos pins s σ H _ I hq) fun us s1 ⟨xs,H1,I1,r,z,q⟩ => ⟨by rw [<- r.length]; exact z,?_⟩)
 have hf : H1 s1.heap.objs.size = none:=I1.hok.fresh (Nat.le_refl _)
 refine ⟨.ref s1.heap.objs.size,upd H1 s1.heap.objs.size (.lst xs),I1.laid (t':=s1.toks) (fun b u e => Heap.get?_push_of_some _ e) (Nat.le_refl _) ?_,rfl,q _ hf⟩
 exact ⟨z,us,0,r,Heap.get?_push_size _ rfl⟩
end
abbrev Sp:=List V -> Hp -> VK -> XK -> Prop
abbrev CXT:=List Env -> Hp -> Shared -> XK -> Value -> Shared -> Prop
structure Env0 (P : Program) (w : World) (K : PySem.W.Frag) (mg : Str -> Option Value) (base : Heap) (A : Around) (outer : List Env) (s : Shared) (H : Hp) : Prop where
 frames : A.frames = some outer
 mod : Mod K mg base
 bs : ∀ b o,base.get? b = some o -> s.heap.get? b = some o /\ H b = none
 bsz : base.objs.size <= s.heap.objs.size
 funs : s.heap.FunFrames base outer
 frf : ∀ b ∈ frs outer,H b = none
 hok : HOk P w H s.heap
 bare : AllBare s.gens
def CE (outer : List Env) (P : Program) (w : World) (H : Hp) (s : Shared) (Q : VK) (u : Value) (s' : Shared) : Prop :=
 ∃ v H',s'.os = s.os /\ AllBare s'.gens /\ Un (frs outer) [] H H' s.heap s'.heap /\ HOk P w H' s'.heap /\ RelV v u /\ Q v H'
def CR (CX : CXT) (outer : List Env) (P : Program) (w : World) (H : Hp) (s : Shared) (Q : VK) (E : XK) (r : Result) (s' : Shared) : Prop :=
 match r with
 | .ok (.ret u) => CE outer P w H s Q u s'
 | .ok _ => False
 | .error e => CX outer H s E e s'
structure FnOk (P : Program) (w : World) (K : PySem.W.Frag) (mg : Str -> Option Value) (base : Heap) (CX : CXT) (k : Nat) (f : Addr) (fd : FuncData) (ps : List Str) (sp : Sp) : Prop where
 len : ∀ vs H Q E,sp vs H Q E -> vs.length = ps.length
 run : ∀ (A : Around) (outer : List Env) (s : Shared) (H : Hp) (args : Args) (us : List Value) (vs : List V) (Q : VK) (E : XK),Room k A -> Env0 P w K mg base A outer s H -> BindsTo s fd args (ps.zip us) -> Vals vs us -> sp vs H Q E ->
  codeAny (model P w) A (.call (.ref f) args) (CR CX outer P w H s Q E) s
theorem FnOk.mono {P : Program} {w : World} {K : PySem.W.Frag} {mg : Str -> Option Value} {base : Heap} {CX : CXT} {j k : Nat} {f : Addr} {fd : FuncData} {ps : List Str} {sp : Sp} (F : FnOk P w K mg base CX j f fd ps sp) (h : j <= k) :
  FnOk P w K mg base CX k f fd ps sp:=⟨F.len,fun A outer s H args us vs Q E hr => F.run A outer s H args us vs Q E (hr.mono h)⟩
theorem FnOk.imp {P : Program} {w : World} {K : PySem.W.Frag} {mg : Str -> Option Value} {base : Heap} {CX : CXT} {k : Nat} {f : Addr} {fd : FuncData} {ps : List Str} {sp sp' : Sp} (F : FnOk P w K mg base CX k f fd ps sp)
  (h : ∀ vs H Q E,sp' vs H Q E -> sp vs H Q E) : FnOk P w K mg base CX k f fd ps sp' :=
 ⟨fun vs H Q E q => F.len vs H Q E (h _ _ _ _ q),fun A outer s H args us vs Q E hr he hb hv hs => F.run A outer s H args us vs Q E hr he hb hv (h _ _ _ _ hs)⟩
theorem Env0.in1 {P : Program} {w : World} {K : PySem.W.Frag} {mg : Str -> Option Value} {base : Heap} {A : Around} {outer : List Env} {s : Shared} {H : Hp} (e : Env0 P w K mg base A outer s H) :
  Env0 P w K mg base A.in1 outer s H:=⟨e.frames,e.mod,e.bs,e.bsz,e.funs,e.frf,e.hok,e.bare⟩
section
variable {X : Cx} {pins : List (Addr × Obj)} {σ : St} {H : Hp} {s s' : Shared}
theorem Inv.env0 (I : Inv X pins σ H s) : Env0 X.prog X.w X.K X.mg X.base X.A X.stack s H :=
 ⟨I.ok.frames,I.ok.mod,I.bs,Nat.le_trans I.ok.bsz I.sz,I.stack,I.stkFree,I.hok,I.bare⟩
theorem Inv.after {Q : VK} {u : Value} (I : Inv X pins σ H s) (h : CE X.stack X.prog X.w H s Q u s') : EP X pins σ Q u s':=by
 obtain ⟨v,H',os,bare,un,hok,r,q⟩:=h
 obtain ⟨hh,g,d,t,os'⟩:=s'
 obtain rfl : os' = s.os:=os
 exact ⟨v,H',I.call (h':=hh) (g':=g) (d':=d) (t':=t) (ch:=[]) un hok bare (fun b z => absurd z (by simp)),r,q⟩
end
def tCall (sp : Sp) (dvs : List V) (E : XK) (t : TA) : TE:=fun σ H Q => t σ H fun vs H1 => sp (vs ++ dvs) H1 Q E
def Binds (K : PySem.W.Frag) (fd : FuncData) (ps : List Str) (ds : List Value) : Prop :=
 ∀ (s : Shared) (us : List Value),K.In s.heap -> (us ++ ds).length = ps.length -> BindsTo s fd ⟨us,[]⟩ (ps.zip (us ++ ds))
theorem Binds.all {K : PySem.W.Frag} {fd : FuncData} {ps : List Str} (h : ∀ us : List Value,us.length = ps.length -> bindArgs fd ⟨us,[]⟩ = pure (ps.zip us)) : Binds K fd ps []:=fun s us _ hl => by
 rw [List.append_nil] at hl ⊢
 exact .of_eq (h us hl)
def Passes (CX : CXT) (X : Cx) (E : XK) : Prop:=∀ (pins : List (Addr × Obj)) (σ : St) (H : Hp) (s : Shared) (e : Value) (s' : Shared),Inv X pins σ H s -> CX X.stack H s E e s' -> X.xe e s'
section
variable {X : Cx} {CX : CXT} {k : Nat} {f C : Addr} {fd : FuncData} {ps : List Str} {sp : Sp} {dvs : List V} {ds : List Value} {E : XK} {x m : Str} {p pos apos : Pos} {e o : Expr} {es : List Expr} {ta : TE} {t : TA}
theorem run_fn {pins : List (Addr × Obj)} {σ : St} {H : Hp} {s : Shared} {Q : VK} {us : List Value} {vs : List V} (F : FnOk X.prog X.w X.K X.mg X.base CX k f fd ps sp) (hr : Room k X.A) (hb : Binds X.K fd ps ds) (hd : Vals dvs ds) (hx : Passes CX X E)
  (I : Inv X pins σ H s) (r : Vals vs us) (h : sp (vs ++ dvs) H Q E) : wpAny (model X.prog X.w) X.A (call (.ref f) us) (EP X pins σ Q) X.xe s:=by
 have r2 : Vals (vs ++ dvs) (us ++ ds):=r.append hd
 have hl : (us ++ ds).length = ps.length:=by rw [<- r2.length]; exact F.len _ _ _ _ h
 refine wpAny_call (codeAny_mono (F.run X.A X.stack s H ⟨us,[]⟩ (us ++ ds) (vs ++ dvs) Q E hr I.env0 (hb s us I.kIn hl) r2 h) fun r s' hq => ?_)
 cases r with
 | error e => exact hx pins σ H s e s' I hq
 | ok fl =>
  cases fl with
  | ret u => exact I.after hq
  | next => exact False.elim hq
  | brk => exact False.elim hq
  | cont => exact False.elim hq
theorem pe_call (F : FnOk X.prog X.w X.K X.mg X.base CX k f fd ps sp) (hr : Room k X.A) (hg : Gl X x) (hm : X.mg x = some (.ref f)) (hk : PySem.W.keepIn X.K (.ref f) = true) (hb : Binds X.K fd ps ds) (hd : Vals dvs ds) (hx : Passes CX X E)
  (ha : PA X (e :: es) t) (hdb : (x == ("__debug__" : Str)) = false:=by decide) (he : starEach (e :: es) X.env = (false,eval e X.env) :: starEach es X.env:=by rfl) (hpl : (backTo pos (starEach es X.env)).any (·.1) = false:=by rfl) :
  PE X (.Call (.Name x p) (e :: es) [] pos) (tCall sp dvs E t):=by
 intro pins s σ H Q I h
 refine wpAny_Call_Name_kw (ld_glob I hg hm ?_ hdb)
 refine PySem.W.callWith_K (h₀:=X.base) I.ok.mod.kin hk (thn (ha pos pins s σ H _ I h) fun us s1 ⟨vs,H1,I1,r,q⟩ => ⟨I1.kIn,?_⟩) he hpl
 exact run_fn F hr hb hd hx I1 r q
end
section
variable {X : Cx} {CX : CXT} {k : Nat} {f C : Addr} {fd : FuncData} {ps ks : List Str} {sp : Sp} {E : XK} {x m : Str} {p pos apos kpos : Pos} {e o : Expr} {es : List Expr} {kws : List Keyword} {te ta : TE} {t tk : TA} {nm : Option Str}
variable {g : List Value -> List Value -> List Value} {gV : List V -> List V -> List V}
end
structure FnScope (N P : List Str) (sc : Scope) : Prop where
 kind : sc.kind = .function
 co : sc.isCoroutine = false
 gen : sc.isGenerator = false
 nd : N.Nodup
 pre : N.take P.length = P
 par : ∀ x ∈ P,sc.names.lookup x = some .local \/ sc.names.lookup x = some .cell
 nofree : ∀ y ∈ sc.names,y.2 ≠ .free
theorem bindL_out {kindOf : Str -> Option NameKind} {x : Str} : ∀ {binds : List (Str × Value)} {m : Str -> Option Value},(∀ v,(x,v) ∉ binds) -> bindL kindOf binds m x = m x
 | [],_,_ => rfl
 | (n,v) :: r,m,h => by
  unfold bindL
  rw [bindL_out fun w hw => h w (List.mem_cons_of_mem _ hw)]
  split
  ·
   have : x ≠ n:=by rintro rfl; exact h v List.mem_cons_self
   simp [this]
  ·
   rfl
theorem bindC_out {kindOf : Str -> Option NameKind} {x : Str} : ∀ {binds : List (Str × Value)} {m : Str -> Option Value},(∀ v,(x,v) ∉ binds) -> bindC kindOf binds m x = m x
 | [],_,_ => rfl
 | (n,v) :: r,m,h => by
  unfold bindC
  rw [bindC_out fun w hw => h w (List.mem_cons_of_mem _ hw)]
  split
  ·
   rfl
  ·
   have : x ≠ n:=by rintro rfl; exact h v List.mem_cons_self
   simp [this]
theorem bindL_get {kindOf : Str -> Option NameKind} {x : Str} {v : Value} : ∀ {P : List Str} {vs : List Value} {i : Nat} {m : Str -> Option Value},P.Nodup -> P[i]? = some x -> vs[i]? = some v -> kindOf x = some .local ->
  bindL kindOf (P.zip vs) m x = some v
 | [],_,_,_,_,h,_,_ => by simp at h
 | _ :: _,[],_,_,_,_,h,_ => by simp at h
 | p :: P,w :: vs,0,m,nd,h1,h2,hk => by
  simp at h1 h2; subst h1; subst h2
  show bindL kindOf ((p,w) :: P.zip vs) m p = _
  unfold bindL
  rw [bindL_out fun v hv => (List.nodup_cons.mp nd).1 (List.of_mem_zip hv).1,if_pos hk]
  simp
 | p :: P,w :: vs,i + 1,m,nd,h1,h2,hk => by
  show bindL kindOf ((p,w) :: P.zip vs) m x = _
  unfold bindL
  exact bindL_get (i:=i) (List.nodup_cons.mp nd).2 (by simpa using h1) (by simpa using h2) hk
theorem bindC_get {kindOf : Str -> Option NameKind} {x : Str} {v : Value} : ∀ {P : List Str} {vs : List Value} {i : Nat} {m : Str -> Option Value},P.Nodup -> P[i]? = some x -> vs[i]? = some v -> kindOf x ≠ some .local ->
  bindC kindOf (P.zip vs) m x = some v
 | [],_,_,_,_,h,_,_ => by simp at h
 | _ :: _,[],_,_,_,_,h,_ => by simp at h
 | p :: P,w :: vs,0,m,nd,h1,h2,hk => by
  simp at h1 h2; subst h1; subst h2
  show bindC kindOf ((p,w) :: P.zip vs) m p = _
  unfold bindC
  rw [bindC_out fun v hv => (List.nodup_cons.mp nd).1 (List.of_mem_zip hv).1,if_neg hk]
  simp
 | p :: P,w :: vs,i + 1,m,nd,h1,h2,hk => by
  show bindC kindOf ((p,w) :: P.zip vs) m x = _
  unfold bindC
  exact bindC_get (i:=i) (List.nodup_cons.mp nd).2 (by simpa using h1) (by simpa using h2) hk
noncomputable def start (N : List Str) (vs : List V) : St:=vs.map some ++ List.replicate (N.length - vs.length) none
noncomputable def cxOf (CX : CXT) (P : Program) (w : World) (K : PySem.W.Frag) (mg : Str -> Option Value) (base : Heap) (N : List Str) (qual : Str) (scope : Scope) (f : Addr) (cd : Value) (A : Around) (outer : List Env) (s : Shared) (H : Hp) (E : XK) : Cx where
 prog:=P
 w:=w
 K:=K
 mg:=mg
 base:=base
 A:=A.deeper (envOfC qual scope s.heap.objs.size f cd)
 N:=N
 s₀:=s
 H₀:=H
 env:=envOfC qual scope s.heap.objs.size f cd
 outer:=outer
 stack:=envOfC qual scope s.heap.objs.size f cd :: outer
 ex:=[]
 calm:=true
 fn:=fun _ => true
 pn:=[]
 xe:=fun e s' => wpAny (model P w) (A.deeper (envOfC qual scope s.heap.objs.size f cd)) (leaving (envOfC qual scope s.heap.objs.size f cd) e) (fun _ s'' => CX outer H s E e s'') (fun e' s'' => CX outer H s E e' s'') s'
theorem cell_has {sc : Scope} {n : Nat} {x : Str} (h : sc.names.lookup x = some .cell) : ∃ c,(cellsFrom n sc.names []).lookup x = some c:=by
 have q:=PySem.W.cellsFrom_some sc.names n [] (.inl h)
 exact Option.isSome_iff_exists.mp q
theorem inv_start {CX : CXT} {P : Program} {w : World} {K : PySem.W.Frag} {mg : Str -> Option Value} {base : Heap} {N ps : List Str} {qual : Str} {scope : Scope} {f : Addr} {cd : Value} {A : Around} {outer : List Env} {s s1 : Shared} {H : Hp} {E : XK} {us : List Value} {vs : List V}
  (S : FnScope N ps scope) (hd : A.handled = none) (e0 : Env0 P w K mg base A outer s H) (hl : vs.length = ps.length) (r : Vals vs us)
  (x : InCallC s s.heap.objs.size (bindL (envOfC qual scope s.heap.objs.size f cd).kindOf (ps.zip us) fun _ => none) (cellsFrom (s.heap.objs.size + 1) scope.names []) (bindC (envOfC qual scope s.heap.objs.size f cd).kindOf (ps.zip us) fun _ => none) s1) :
  Inv (cxOf CX P w K mg base N qual scope f cd A outer s H E) [] (start N vs) H s1:=by
 have hpl : ps.length <= N.length:=by have:=congrArg List.length S.pre; rw [List.length_take] at this; omega
 obtain ⟨h1,tk,rfl,hk⟩:=x.done
 have noA : ∀ b : Addr,b ∉ (cxOf CX P w K mg base N qual scope f cd A outer s H E).ex:=fun b z => absurd (show b ∈ ([] : List Addr) from z) (by simp)
 refine ⟨⟨e0.mod,S.kind,rfl,rfl,Nat.le_refl _,fun y z c h1 h2 => ?_,fun y hy => ?_,fun y c _ h => ?_,fun _ => hd,Around.frames_deeper e0.frames,.inr ⟨rfl,rfl⟩,fun b z => absurd z (noA b),e0.bs,e0.bsz,fun b _ _ => noA b,fun b z => absurd z (noA b),e0.funs,e0.frf⟩,
  rfl,e0.bare,Un.kept hk,⟨_,x.toInCall.ns,fun i y v h1 h2 h3 => ?_⟩,fun y c h => ⟨_,x.cell y c h⟩,e0.hok.fresh (Nat.le_refl _),fun y c h => ?_,fun p hp => absurd (show p ∈ ([] : List (Addr × Obj)) from hp) (by simp),e0.hok.kept hk,?_⟩
 ·
  exact name_of_addr x.apart (PySem.mem_of_lookup h1) (PySem.mem_of_lookup h2)
 ·
  have hy : scope.names.lookup y = some .cell \/ scope.names.lookup y = some .free:=hy
  rcases hy with hy | hy
  ·
   exact cell_has hy
  ·
   exact absurd rfl (S.nofree _ (PySem.mem_of_lookup hy))
 ·
  exact Nat.le_of_lt (x.above y c (PySem.mem_of_lookup h))
 ·
  have hi : i < vs.length:=by
   unfold start at h2
   by_cases hi : i < vs.length
   ·
    exact hi
   ·
    rw [List.getElem?_append_right (by simpa using hi)] at h2
    rw [List.getElem?_replicate] at h2
    split at h2 <;> cases h2
  have ha : vs[i]? = some v:=by
   unfold start at h2
   rw [List.getElem?_append_left (by simpa using hi),List.getElem?_map] at h2
   cases e : vs[i]? with
   | none => rw [e] at h2; cases h2
   | some a => rw [e] at h2; cases h2; rfl
  obtain ⟨u,hu,rv⟩:=r.get ha
  have hp : ps[i]? = some y:=by
   rw [<- S.pre,List.getElem?_take_of_lt (by omega)]; exact h1
  have ndP : ps.Nodup:=by rw [<- S.pre]; exact S.nd.sublist (List.take_sublist _ _)
  refine ⟨u,rv,?_⟩
  rcases S.par y (List.mem_of_getElem? hp) with k | k
  ·
   exact .inl ⟨k,bindL_get ndP hp hu k⟩
  ·
   obtain ⟨c,e⟩:=cell_has (n:=s.heap.objs.size + 1) k
   refine .inr ⟨.inl k,c,e,?_⟩
   have q:=x.cell y c e
   rw [bindC_get ndP hp hu (by show scope.names.lookup y ≠ _; rw [k]; decide)] at q
   exact q
 ·
  exact e0.hok.fresh (Nat.le_of_lt (x.above y c (PySem.mem_of_lookup h)))
 ·
  unfold start
  show _ = N.length
  rw [List.length_append,List.length_map,List.length_replicate]
  omega
theorem fn_of {CX : CXT} {P : Program} {w : World} {K : PySem.W.Frag} {mg : Str -> Option Value} {base : Heap} {k : Nat} {f : Addr} {name qual : Str} {params : Arguments} {body : List Stmt} {scope : Scope} {dV kV doc pm cdv ct oc : Value} {an od : Option Addr}
  {osl : Array (Option Value)} {N ps : List Str} {sp : Sp} (lk : K.lookup f = some ⟨oc,od,.func (PySem.W.fnOf name qual params body scope dV kV doc pm an cdv ct),osl⟩) (hcd : PySem.W.codeIn K cdv qual = true) (S : FnScope N ps scope)
  (len : ∀ vs H Q E,sp vs H Q E -> vs.length = ps.length)
  (hbody : ∀ (A : Around) (outer : List Env) (s : Shared) (H : Hp) (vs : List V) (Q : VK) (E : XK),Room k (A.deeper (envOfC qual scope s.heap.objs.size f cdv)) -> sp vs H Q E ->
   ∃ t,PSs (cxOf CX P w K mg base N qual scope f cdv A outer s H E) body t /\ t { nx:=fun _ H' => Q .non H',rt:=Q } (start N vs) H) :
  FnOk P w K mg base CX (k + 1) f (PySem.W.fnOf name qual params body scope dV kV doc pm an cdv ct) ps sp:=by
 refine ⟨len,fun A outer s H args us vs Q E hr e0 hb r hsp => ?_⟩
 have hl:=len _ _ _ _ hsp
 have KX : K.In s.heap:=e0.mod.kin.keeps fun b o e => (e0.bs b o e).1
 have lim : s.heap.NoLimit:=e0.mod.nolimit.keeps fun b o e => (e0.bs b o e).1
 have hkind : ∀ y ∈ ps.zip us,scope.names.lookup y.1 = some .local \/ (scope.names.lookup y.1 = some .cell /\ ((cellsFrom (s.heap.objs.size + 1) scope.names []).lookup y.1).isSome = true):=fun ⟨n,v⟩ hy => by
  rcases S.par n (List.of_mem_zip hy).1 with q | q
  ·
   exact .inl q
  ·
   exact .inr ⟨q,PySem.W.cellsFrom_some _ _ _ (.inl q)⟩
 refine codeAny_call_function hr.depth (KX _ _ lk) rfl S.co S.gen rfl (PySem.W.codeRec_of KX hcd) (hb _ _ _ _ ?_)
 refine wpAny_newFunctionEnv_cells S.kind hkind fun env he s1 x => ?_
 subst he
 refine ⟨lim.keeps x.toInCall.keep,codeAny_func ?_⟩
 obtain ⟨t,ht,hq⟩:=hbody A outer s H vs Q E (hr.deeper _) hsp
 have I : Inv (cxOf CX P w K mg base N qual scope f cdv A outer s H E) [] (start N vs) H s1:=inv_start S hr.hd e0 hl r x
 refine wpAny_mono (ht [] s1 (start N vs) H _ I hq) (fun fl s' hs => ?_) fun e s' hs => hs
 have fin : ∀ {σ' : St} {H' : Hp} {v : V} {u : Value},Inv (cxOf CX P w K mg base N qual scope f cdv A outer s H E) [] σ' H' s' -> RelV v u -> Q v H' -> CE outer P w H s Q u s' :=
  fun {σ' H' v u} J rv q => ⟨v,H',J.os,J.bare,J.base,J.hok,rv,q⟩
 cases fl with
 | ret u =>
  obtain ⟨v,σ',H',J,rv,q⟩:=hs
  exact fin J rv q
 | next =>
  obtain ⟨σ',H',J,q⟩:=hs
  exact fin (v:=V.non) (u:=Value.none) J rfl q
 | brk =>
  obtain ⟨_,_,_,q⟩:=hs
  exact False.elim q
 | cont =>
  obtain ⟨_,_,_,q⟩:=hs
  exact False.elim q
end L2
namespace L2
open PySem PySem.Spec PyProof.Rows
section
variable {X : Cx} {x : Str} {p pos : Pos} {e : Expr} {es : List Expr} {t : TA} {id T : String} {r : List V -> Hp -> VK -> Prop}
def tCB (r : List V -> Hp -> VK -> Prop) (t : TA) : TE:=fun σ H Q => t σ H fun vs H1 => r vs H1 Q
theorem pe_callB (hc : CallR X (.builtin id) r) (hg : Gl X x) (hm : X.mg x = none) (hv : bootBuiltins x = some (.builtin id)) (ha : PA X (e :: es) t) (hn : x ≠ "__name__":=by decide) (hdb : (x == ("__debug__" : Str)) = false:=by decide)
  (he : starEach (e :: es) X.env = (false,eval e X.env) :: starEach es X.env:=by rfl) (hpl : (backTo pos (starEach es X.env)).any (·.1) = false:=by rfl) : PE X (.Call (.Name x p) (e :: es) [] pos) (tCB r t):=by
 intro pins s σ H Q I h
 refine wpAny_Call_Name_kw (ld_blt I hg hm hv ?_ hn hdb)
 exact PyProof.Rows.callWith_builtin1 (thn (ha pos pins s σ H _ I h) fun us s1 ⟨vs,H1,I1,r1,q1⟩ => hc pins s1 σ H1 vs us Q I1 r1 q1) he hpl
theorem pe_callTy (hc : CallR X (.type T) r) (hg : Gl X x) (hm : X.mg x = none) (hv : bootBuiltins x = some (.type T)) (ha : PA X (e :: es) t) (hn : x ≠ "__name__":=by decide) (hdb : (x == ("__debug__" : Str)) = false:=by decide)
  (he : starEach (e :: es) X.env = (false,eval e X.env) :: starEach es X.env:=by rfl) (hpl : (backTo pos (starEach es X.env)).any (·.1) = false:=by rfl) : PE X (.Call (.Name x p) (e :: es) [] pos) (tCB r t):=by
 intro pins s σ H Q I h
 refine wpAny_Call_Name_kw (ld_blt I hg hm hv ?_ hn hdb)
 exact PyProof.Rows.callWith_type1 (thn (ha pos pins s σ H _ I h) fun us s1 ⟨vs,H1,I1,r1,q1⟩ => hc pins s1 σ H1 vs us Q I1 r1 q1) he hpl
end
end L2
namespace HT
open PySem PyProof.Rows
section
open PySem.SeqAt
open PySem.AutoSeq1 (wpAny_loadPart')
open PySem.MeetsSeq PySem.MeetsSeq2 PySem.MeetsSeq3
end
section
variable {prog : Program} {w : World} {A : Around} {E : Value -> Shared -> Prop} {s : Shared}
theorem cat_tup {t b : Addr} {vs ws : List Value} {Q : Value -> Shared -> Prop} (ht : IsTup s.heap t vs.toArray) (hb : IsTup s.heap b ws.toArray) (hv : vs ≠ [])
  (h1 : ws = [] -> Q (.ref t) s) (h2 : ws ≠ [] -> Q (.ref s.heap.objs.size) { s with heap:=s.heap.push { cls:=.type "tuple",data:=.seq (vs ++ ws).toArray } })
  (hsz : vs.length + ws.length <= sizeLine) : wpAny (model prog w) A (binaryOp .Add (.ref t) (.ref b)) Q E s:=by
 obtain ⟨⟨cls,dd,data,sl⟩,ho,hc,n,hd⟩:=id ht
 obtain ⟨⟨cls2,dd2,data2,sl2⟩,ho2,hc2,n2,hd2⟩:=id hb
 simp only at hc hd hc2 hd2
 subst hc hd hc2 hd2
 have e : vs.toArray ++ ws.toArray = (vs ++ ws).toArray:=by simp
 by_cases hw : ws = []
 ·
  exact concat_meets ⟨_,ho,rfl⟩ ⟨_,ho2,rfl⟩ noFill_tuple_add seq_tuple_add PySem.F.slot_tuple_add PySem.F.entry_tuple_add (PySem.F.args_tuple_add_2 _ _)
   (tuple_addW1 t b vs.toArray ws.toArray n n2 dd dd2 sl sl2 (by simpa using hv) (by simp [hw])) ⟨ho,ho2,h1 hw⟩
 ·
  refine concat_meets ⟨_,ho,rfl⟩ ⟨_,ho2,rfl⟩ noFill_tuple_add seq_tuple_add PySem.F.slot_tuple_add PySem.F.entry_tuple_add (PySem.F.args_tuple_add_2 _ _)
   (tuple_addW2 t b vs.toArray ws.toArray n n2 dd dd2 sl sl2 (by simpa using hv) (by simpa using hw) (by rw [List.size_toArray,List.size_toArray]; exact hsz)) ⟨ho,ho2,?_⟩
  rw [e]
  exact h2 hw
noncomputable def sIx (n d : Nat) : Option Int -> Nat
 | none => d
 | some v => if v < 0 then (v + (n : Int)).toNat else min v.toNat n
theorem sIx_none (n d : Nat) : sIx n d none = d:=rfl
theorem sIx_nat (n d k : Nat) : sIx n d (some (k : Int)) = min k n:=by
 show (if (k : Int) < 0 then ((k : Int) + (n : Int)).toNat else min (k : Int).toNat n) = min k n
 rw [if_neg (by omega),Int.toNat_natCast]
theorem sIx_le (n d : Nat) (hd : d <= n) (o : Option Int) : sIx n d o <= n:=by
 cases o with
 | none => exact hd
 | some v =>
  show (if v < 0 then (v + (n : Int)).toNat else min v.toNat n) <= n
  by_cases hv : v < 0
  ·
   rw [if_pos hv]; omega
  ·
   rw [if_neg hv]; exact Nat.min_le_right _ _
theorem clip_eq (v : Int) (n d : Nat) : (if v < 0 then max (v + (n : Int)) 0 else min v (n : Int)) = ((sIx n d (some v) : Nat) : Int):=by
 show (if v < 0 then max (v + (n : Int)) 0 else min v (n : Int)) = (((if v < 0 then (v + (n : Int)).toNat else min v.toNat n) : Nat) : Int)
 by_cases hv : v < 0
 ·
  simp only [if_pos hv]; omega
 ·
  simp only [if_neg hv]; omega
theorem adjust_gen (lo hi : Option Int) (n : Nat) : Builtin.Slice.sliceAdjust lo hi 1 (n : Int) = (((sIx n 0 lo : Nat) : Int),((sIx n n hi : Nat) : Int)):=by
 have h1 : ¬ ((1 : Int) < 0):=by omega
 unfold Builtin.Slice.sliceAdjust
 simp only [h1,if_false]
 refine Prod.ext ?_ ?_
 ·
  cases lo with
  | none => rfl
  | some v => exact clip_eq v n 0
 ·
  cases hi with
  | none => rfl
  | some v => exact clip_eq v n n
theorem places_gen (i j : Nat) : Builtin.Slice.slicePlaces (i : Int) (j : Int) 1 = j - i:=by
 unfold Builtin.Slice.slicePlaces
 have h1 : (1 : Int) > 0:=by omega
 simp only [h1,if_true,Int.ediv_one]
 split <;> omega
theorem slicePart_ {v : Value} {o : Option Int} {Q : Option Int -> Shared -> Prop} (p : IsPart v o) (h : Q o s) : wpAny (model prog w) A (Builtin.Slice.slicePartIndex v) Q E s:=by
 cases p with
 | none => exact slicePart_none h
 | int i t => exact slicePart_int h
theorem sliceApplied_gen {sl : Addr} {vl vu : Value} {lo hi : Option Int} {n : Nat} {Q : Int × Int × Nat -> Shared -> Prop} (hs : s.heap.IsSliceOf sl vl vu .none) (pl : IsPart vl lo) (pu : IsPart vu hi)
  (h : Q (((sIx n 0 lo : Nat) : Int),1,sIx n n hi - sIx n 0 lo) s) : wpAny (model prog w) A (Builtin.Slice.sliceApplied (.ref sl) (pure (n : Int))) Q E s:=by
 obtain ⟨os,hos,hcs,hds⟩:=id hs
 unfold Builtin.Slice.sliceApplied Builtin.Slice.sliceFields
 refine wpAny_bind (wpAny_bind (wpAny_field hos hds (x:=vl) rfl (wpAny_bind (wpAny_field hos hds (x:=vu) rfl (wpAny_bind (wpAny_field hos hds (x:=.none) rfl (wpAny_pure ?_)))))))
 refine wpAny_bind (slicePart_none ?_)
 show wpAny _ _ (if ((1 : Int) == 0) = true then _ else _) _ _ s
 rw [if_neg (by decide)]
 refine wpAny_bind (slicePart_ pl (wpAny_bind (slicePart_ pu (wpAny_bind (wpAny_pure ?_)))))
 show wpAny _ _ (match Builtin.Slice.sliceAdjust lo hi 1 (n : Int) with | (lo,hi) => pure (lo,(1 : Int),Builtin.Slice.slicePlaces lo hi 1)) _ _ s
 rw [adjust_gen lo hi n]
 show wpAny _ _ (pure (((sIx n 0 lo : Nat) : Int),(1 : Int),Builtin.Slice.slicePlaces ((sIx n 0 lo : Nat) : Int) ((sIx n n hi : Nat) : Int) 1)) _ _ s
 rw [places_gen]
 exact wpAny_pure h
theorem pick_gen (xs : Array Value) (i k : Nat) : ((List.range k).filterMap fun (m : Nat) => xs[((i : Int) + (m : Int) * 1).toNat]?).toArray = ((xs.toList.drop i).take k).toArray:=by
 have e : (fun (m : Nat) => xs[((i : Int) + (m : Int) * 1).toNat]?) = fun m => xs[i + m]?:=by
  funext m
  have : ((i : Int) + (m : Int) * 1).toNat = i + m:=by omega
  rw [this]
 rw [e]
 have:=pick_run xs i k
 rw [List.filterMap_map] at this
 have e2 : ((fun x => xs[x]?) ∘ fun x => i + x) = fun m => xs[i + m]?:=rfl
 rw [e2] at this
 rw [this]
theorem getItem_tuple_cut {t sl : Addr} {items : Array Value} {vl vu : Value} {lo hi : Option Int} {Q : Value -> Shared -> Prop} (ht : IsTup s.heap t items) (hs : s.heap.IsSliceOf sl vl vu .none) (pl : IsPart vl lo) (pu : IsPart vu hi)
  (hw : ¬ (sIx items.size 0 lo = 0 /\ sIx items.size items.size hi = items.size))
  (h : Q (.ref s.heap.objs.size) { s with heap:=s.heap.push { cls:=.type "tuple",data:=.seq ((items.toList.drop (sIx items.size 0 lo)).take (sIx items.size items.size hi - sIx items.size 0 lo)).toArray } })
  (hsz : items.size <= sizeLine) : wpAny (model prog w) A (getItem (.ref t) (.ref sl)) Q E s:=by
 have htake : sizeOk (.seq ((items.toList.drop (sIx items.size 0 lo)).take (sIx items.size items.size hi - sIx items.size 0 lo)).toArray):=by
  show ((items.toList.drop (sIx items.size 0 lo)).take (sIx items.size items.size hi - sIx items.size 0 lo)).toArray.size <= sizeLine
  rw [List.size_toArray,List.length_take,List.length_drop,Array.length_toList]
  omega
 have hj : sIx items.size items.size hi <= items.size:=sIx_le _ _ (Nat.le_refl _) hi
 obtain ⟨os,hos,hcs,hds⟩:=id hs
 have hTs : s.TypeIs (.ref sl) "slice":=⟨os,hos,hcs⟩
 unfold getItem
 try with_reducible refine wpAny_holding ?_
 first | refine wpAny_bind (wpAny_pure ?_) | skip
 refine wpAny_bind (wpAny_sequenceKey ht.typeIs (by decide) ?_)
 refine wpAny_bind (wpAny_callSpecial?_slot (name:=Str.ofString "__getitem__") ht.typeIs PyProof.Rows.slot_tuple_getitem
  (wpAny_call_entry PyProof.Rows.slot_tuple_getitem ht.typeIs entry_tuple_getitem ?_ (args_tuple_getitem _ _)))
 show wpAny _ _ (Builtin.Tuple.tupleItemsOf (.ref t) >>= _) _ _ s
 refine wpAny_bind (tupleItemsOf_ ht ?_)
 refine wpAny_bind (wpAny_typeOf hTs ?_)
 rw [if_pos (by decide)]
 refine wpAny_bind (sliceApplied_gen hs pl pu ?_)
 have hno : ¬ ((((sIx items.size 0 lo : Nat) : Int) == 0 && (1 : Int) == 1 && (sIx items.size items.size hi - sIx items.size 0 lo) == items.size) = true):=by
  intro q
  rw [Bool.and_eq_true,Bool.and_eq_true] at q
  have q1 : ((sIx items.size 0 lo : Nat) : Int) = 0:=eq_of_beq q.1.1
  have q2 : sIx items.size items.size hi - sIx items.size 0 lo = items.size:=eq_of_beq q.2
  exact hw ⟨by omega,by omega⟩
 show wpAny _ _ (if (((sIx items.size 0 lo : Nat) : Int) == 0 && (1 : Int) == 1 && (sIx items.size items.size hi - sIx items.size 0 lo) == items.size) = true then _ else _) _ _ s
 rw [if_neg hno,pick_gen]
 first
  | exact wpAny_bind (m:=Builtin.Tuple.tupleExact _) (wpAny_newObj_type (wpAny_pure ⟨_,rfl,wpAny_pure h⟩) htake)
  | exact wpAny_bind (m:=Builtin.Tuple.tupleExact _) (wpAny_newObj_type (wpAny_bind (wpAny_pure (wpAny_pure ⟨_,rfl,wpAny_pure h⟩))) htake)
  | exact wpAny_bind (wpAny_bind (m:=Builtin.Tuple.tupleExact _) (wpAny_newObj_type (wpAny_pure (wpAny_pure ⟨_,rfl,wpAny_pure h⟩)) htake))
  | exact wpAny_bind (wpAny_bind (m:=Builtin.Tuple.tupleExact _) (wpAny_newObj_type (wpAny_pure ⟨_,rfl,wpAny_pure h⟩) htake))
end
end HT
namespace L2
open PySem PySem.Spec PyProof.Rows
abbrev TO:=St -> Hp -> (Option Int -> Hp -> Prop) -> Prop
def PO (X : Cx) (e : Option Expr) (t : TO) : Prop :=
 ∀ (pins : List (Addr × Obj)) (s : Shared) (σ : St) (H : Hp) (Q : Option Int -> Hp -> Prop),Inv X pins σ H s -> t σ H Q ->
  wpAny (model X.prog X.w) X.A (evalPart e X.env) (fun u s' => ∃ o H',Inv X pins σ H' s' /\ IsPart u o /\ Q o H') X.xe s
def tNoPart : TO:=fun _ H Q => Q none H
def tPart (t : TE) : TO:=fun σ H Q => t σ H fun x H1 => ∃ i,x = .int i /\ Q (some i) H1
section
variable {X : Cx} {e : Expr} {te : TE} {lo hi : Option Expr} {tl th : TO} {pos p2 : Pos}
theorem po_none : PO X none tNoPart:=by
 intro pins s σ H Q I h
 rw [evalPart_none]
 exact wpAny_pure ⟨none,H,I,.none,h⟩
theorem po_some (h : PE X e te) : PO X (some e) (tPart te):=by
 intro pins s σ H Q I hw
 rw [evalPart_some]
 refine thn (h pins s σ H _ I hw) fun u s1 ⟨x,H1,I1,r1,q1⟩ => ?_
 obtain ⟨i,rfl,q⟩:=q1
 obtain ⟨t,rfl⟩:=r1
 exact ⟨some i,H1,I1,.int i t,q⟩
def SlR (X : Cx) (r : V -> Option Int -> Option Int -> Hp -> VK -> Prop) : Prop :=
 ∀ (pins : List (Addr × Obj)) (s : Shared) (σ : St) (H : Hp) (x : V) (v vl vu : Value) (lo hi : Option Int) (sl : Addr) (Q : VK),Inv X pins σ H s -> RelV x v -> s.heap.IsSliceOf sl vl vu .none -> IsPart vl lo -> IsPart vu hi -> r x lo hi H Q ->
  ∃ T id,typeLookup (.type T) "__getitem__" = pure (some (.builtin id)) /\ s.TypeIs v T /\ wpAny (model X.prog X.w) X.A (getItem v (.ref sl)) (EP X pins σ Q) X.xe s
theorem SlR.or {r r' : V -> Option Int -> Option Int -> Hp -> VK -> Prop} (h : SlR X r) (h' : SlR X r') : SlR X (fun x lo hi H Q => r x lo hi H Q \/ r' x lo hi H Q):=by
 intro pins s σ H x v vl vu lo hi sl Q I rx hs pl pu q
 rcases q with q | q
 ·
  exact h pins s σ H x v vl vu lo hi sl Q I rx hs pl pu q
 ·
  exact h' pins s σ H x v vl vu lo hi sl Q I rx hs pl pu q
def tSl (r : V -> Option Int -> Option Int -> Hp -> VK -> Prop) (te : TE) (tl th : TO) : TE:=fun σ H Q => te σ H fun x H1 => tl σ H1 fun l H2 => th σ H2 fun u H3 => r x l u H3 Q
theorem pe_slice {r : V -> Option Int -> Option Int -> Hp -> VK -> Prop} (hr : SlR X r) (he : PE X e te) (hl : PO X lo tl) (hu : PO X hi th) : PE X (.Subscript e (.Slice lo hi none p2) pos) (tSl r te tl th):=by
 intro pins s σ H Q I h
 refine Subscript_ (thn (he pins s σ H _ I h) fun v s1 ⟨x,H1,I1,r1,q1⟩ => ?_)
 refine wpAny_Slice (thn (hl pins s1 σ H1 _ I1 q1) fun vl s2 ⟨l,H2,I2,pl,q2⟩ => thn (hu pins s2 σ H2 _ I2 q2) fun vu s3 ⟨u,H3,I3,pu,q3⟩ => ?_)
 rw [evalPart_none]
 refine wpAny_pure ?_
 have I4 : Inv X pins σ H3 { s3 with heap:=s3.heap.push { cls:=.type "slice",data:=.fields #[vl,vu,.none] } }:=I3.kept (t':=s3.toks) fun b ob q => Heap.get?_push_of_some _ q
 obtain ⟨T,id,hT,ht,hg⟩:=hr pins { s3 with heap:=s3.heap.push { cls:=.type "slice",data:=.fields #[vl,vu,.none] } } σ H3 x v vl vu l u s3.heap.objs.size Q I4 r1 (Heap.IsSliceOf.new ..) pl pu q3
 show wpAny (model X.prog X.w) X.A (subscriptTail e (.Slice lo hi none p2) v (.ref s3.heap.objs.size)) (EP X pins σ Q) X.xe { s3 with heap:=s3.heap.push { cls:=.type "slice",data:=.fields #[vl,vu,.none] } }
 exact tail_any (ops:=[.ref s3.heap.objs.size,v]) ht hT hg (by with_unfolding_all rfl)
noncomputable def cutV (xs : List V) (lo hi : Option Int) : List V:=(xs.drop (HT.sIx xs.length 0 lo)).take (HT.sIx xs.length xs.length hi - HT.sIx xs.length 0 lo)
theorem cutV_length (xs : List V) (lo hi : Option Int) : (cutV xs lo hi).length <= xs.length:=by
 unfold cutV
 rw [List.length_take,List.length_drop]
 omega
def rSlT (K : PySem.W.Frag) : V -> Option Int -> Option Int -> Hp -> VK -> Prop:=fun x lo hi H Q => ∃ a xs,x = .ref a /\ SqT K H a xs /\
 ¬ (HT.sIx xs.length 0 lo = 0 /\ HT.sIx xs.length xs.length hi = xs.length) /\ ∀ p,H p = none -> Q (.ref p) (upd H p (.tup (cutV xs lo hi)))
theorem sl_tup : SlR X (rSlT X.K):=by
 intro pins s σ H x v vl vu lo hi sl Q I rx hs pl pu h
 obtain ⟨a,xs,rfl,hx,hw,q⟩:=h
 cases rx
 obtain ⟨its,r,ht,hz⟩:=I.tuple hx
 have hlen : its.toArray.size = xs.length:=by rw [List.size_toArray]; exact r.length.symm
 refine ⟨"tuple",_,PyProof.Rows.slot_tuple_getitem.lookup,ht.typeIs,?_⟩
 refine HT.getItem_tuple_cut ht hs pl pu (by rw [hlen]; exact hw) ?_ (by rw [hlen]; exact hz)
 rw [hlen]
 refine ⟨.ref s.heap.objs.size,_,I.laid (t':=s.toks) (o:=.tup (cutV xs lo hi)) (fun b ob q => Heap.get?_push_of_some _ q) (Nat.le_refl _) ?_,rfl,q _ (I.hok.fresh (Nat.le_refl _))⟩
 exact ⟨Nat.le_trans (cutV_length xs lo hi) hz,_,(r.drop (HT.sIx xs.length 0 lo)).take (HT.sIx xs.length xs.length hi - HT.sIx xs.length 0 lo),Tup0.new _ _⟩
def rCatT (K : PySem.W.Frag) : R2:=fun x y H Q => ∃ a b xs ys,x = .ref a /\ y = .ref b /\ SqT K H a xs /\ SqT K H b ys /\ xs ≠ [] /\ xs.length + ys.length <= sizeLine /\
 (ys = [] -> Q (.ref a) H) /\ (ys ≠ [] -> ∀ p,H p = none -> Q (.ref p) (upd H p (.tup (xs ++ ys))))
theorem Vals.nil_iff {xs : List V} {us : List Value} (r : Vals xs us) : us = [] ↔ xs = []:=by
 cases r with
 | nil => simp
 | cons _ _ => simp
theorem op_catT : OpR X (binaryOp .Add) (rCatT X.K):=by
 intro pins s σ H x y v u Q I rx ry h
 obtain ⟨a,b,xs,ys,rfl,rfl,ha,hb,hx,hz,q1,q2⟩:=h
 cases rx
 cases ry
 obtain ⟨its,r1,p1,_⟩:=I.tuple ha
 obtain ⟨its2,r2,p2,_⟩:=I.tuple hb
 refine HT.cat_tup p1 p2 (fun z => hx (r1.nil_iff.mp z)) (fun z => ⟨.ref a,H,I,rfl,q1 (r2.nil_iff.mp z)⟩) (fun z => ?_) (by rw [<- r1.length,<- r2.length]; exact hz)
 refine ⟨.ref s.heap.objs.size,_,I.laid (t':=s.toks) (o:=.tup (xs ++ ys)) (fun b ob q => Heap.get?_push_of_some _ q) (Nat.le_refl _) ?_,rfl,q2 (fun w => z (r2.nil_iff.mpr w)) _ (I.hok.fresh (Nat.le_refl _))⟩
 exact ⟨by rw [List.length_append]; exact hz,_,r1.append r2,Tup0.new _ _⟩
end
end L2
namespace L2
open PySem PySem.Spec PyProof.Rows
noncomputable def ixN (n : Nat) (i : Int) : Option Nat:=if 0 <= i then (if i < n then some i.toNat else none) else if -(n : Int) <= i then some (i + n).toNat else none
noncomputable def atI {α : Type} (xs : List α) (i : Int) : Option α:=(ixN xs.length i).bind fun j => xs[j]?
theorem ixN_seq {n : Nat} {i : Int} {j : Nat} (h : ixN n i = some j) : seqIndex? i n = some j /\ j < n /\ -(n : Int) <= i /\ i < n:=by
 unfold ixN at h
 by_cases h0 : 0 <= i
 ·
  rw [if_pos h0] at h
  by_cases h1 : i < n
  ·
   rw [if_pos h1] at h
   have e : i.toNat = j:=Option.some.inj h
   exact ⟨by rw [seqIndex_of h0 h1,e],by omega,by omega,h1⟩
  ·
   rw [if_neg h1] at h; cases h
 ·
  rw [if_neg h0] at h
  by_cases h1 : -(n : Int) <= i
  ·
   rw [if_pos h1] at h
   have e : (i + n).toNat = j:=Option.some.inj h
   exact ⟨by rw [seqIndex_neg (by omega) h1,e],by omega,h1,by omega⟩
  ·
   rw [if_neg h1] at h; cases h
theorem atI_get {α : Type} {xs : List α} {i : Int} {v : α} (h : atI xs i = some v) : ∃ j,seqIndex? i xs.length = some j /\ xs[j]? = some v /\ j < xs.length /\ -(xs.length : Int) <= i /\ i < xs.length:=by
 unfold atI at h
 cases e : ixN xs.length i with
 | none => rw [e] at h; cases h
 | some j =>
  rw [e] at h
  obtain ⟨h1,h2,h3,h4⟩:=ixN_seq e
  exact ⟨j,h1,h,h2,h3,h4⟩
theorem atI_nat {α : Type} {xs : List α} {j : Nat} {v : α} (h : xs[j]? = some v) : atI xs (j : Int) = some v:=by
 have hj : j < xs.length:=(List.getElem?_eq_some_iff.mp h).1
 have e : ixN xs.length (j : Int) = some j:=by
  unfold ixN
  rw [if_pos (by omega),if_pos (by omega)]; simp
 unfold atI; rw [e]; exact h
def PlainIx (b : Expr) : Prop:=∀ o i,subscripted b false o i = operate [o,i] (getItem o i)
def IxR (X : Cx) (r : R2) : Prop :=
 ∀ (value slice : Expr) (pins : List (Addr × Obj)) (s : Shared) (σ : St) (H : Hp) (x y : V) (v u : Value) (Q : VK),Inv X pins σ H s -> RelV x v -> RelV y u -> r x y H Q ->
  subscripted slice false v u = operate [v,u] (getItem v u) -> wpAny (model X.prog X.w) X.A (subscriptTail value slice v u) (EP X pins σ Q) X.xe s
def MtR (X : Cx) (id : String) (r : V -> List V -> Hp -> VK -> Prop) : Prop :=
 ∀ (pins : List (Addr × Obj)) (s : Shared) (σ : St) (H : Hp) (x : V) (xs : List V) (v : Value) (us : List Value) (Q : VK),Inv X pins σ H s -> RelV x v -> Vals xs us -> r x xs H Q ->
  wpAny (model X.prog X.w) X.A (call (.builtin id) (v :: us)) (EP X pins σ Q) X.xe s
section
variable {X : Cx} {a b : Expr} {ta tb : TE} {pos : Pos}
theorem IxR.or {r r' : R2} (h : IxR X r) (h' : IxR X r') : IxR X (fun x y H Q => r x y H Q \/ r' x y H Q):=by
 intro value slice pins s σ H x y v u Q I rx ry q hs
 rcases q with q | q
 ·
  exact h value slice pins s σ H x y v u Q I rx ry q hs
 ·
  exact h' value slice pins s σ H x y v u Q I rx ry q hs
theorem MtR.or {id : String} {r r' : V -> List V -> Hp -> VK -> Prop} (h : MtR X id r) (h' : MtR X id r') : MtR X id (fun x xs H Q => r x xs H Q \/ r' x xs H Q):=by
 intro pins s σ H x xs v us Q I rx rs q
 rcases q with q | q
 ·
  exact h pins s σ H x xs v us Q I rx rs q
 ·
  exact h' pins s σ H x xs v us Q I rx rs q
theorem pe_ix {r : R2} (hr : IxR X r) (ha : PE X a ta) (hb : PE X b tb) (hs : PlainIx b) : PE X (.Subscript a b pos) (tOp r ta tb):=by
 intro pins s σ H Q I h
 exact Subscript_ (binT ha hb I h fun v u s2 x y H2 I2 rx ry q => hr a b pins s2 σ H2 x y v u Q I2 rx ry q (hs _ _))
def rIxL (K : PySem.W.Frag) : R2:=fun x y H Q => ∃ p xs i v,x = .ref p /\ y = .int i /\ SqL K H p xs /\ atI xs i = some v /\ Q v H
def rIxT (K : PySem.W.Frag) : R2:=fun x y H Q => ∃ p xs i v,x = .ref p /\ y = .int i /\ SqT K H p xs /\ atI xs i = some v /\ Q v H
def rIxS : R2:=fun x y H Q => ∃ z i c,x = .str z /\ y = .int i /\ z.length <= sizeLine /\ atI z.cps.toList i = some c /\ Q (.str ⟨#[c]⟩) H
theorem ix_list : IxR X (rIxL X.K):=by
 intro value slice pins s σ H x y v u Q I rx ry h hs
 obtain ⟨p,xs,i,z,rfl,rfl,hq,he,q⟩:=h
 cases rx
 obtain ⟨t,rfl⟩:=ry
 obtain ⟨its,r,pl,hz⟩:=I.list hq
 obtain ⟨j,h1,h2,h3,h4,h5⟩:=atI_get he
 obtain ⟨w,ew,rw'⟩:=r.get h2
 have hl:=r.length
 have hn:=line63
 have fin : EP X pins σ Q w s:=⟨z,H,I,rw',q⟩
 by_cases h0 : 0 <= i
 ·
  have hj : i.toNat = j:=by
   rw [seqIndex_of h0 h5] at h1
   exact Option.some.inj h1
  exact item_listR pl.isList h0 (by omega) (by rw [hj]; simpa using ew) fin hs
 ·
  have hj : (i + (its.toArray.size : Int)).toNat = j:=by
   rw [seqIndex_neg (by omega) h4] at h1
   rw [List.size_toArray,<- hl]
   exact Option.some.inj h1
  exact subscriptTail_builtinR (x:=w) pl.isList.typeIs slot_list_getitem.lookup
   (wpAny_getItem_list_neg (Q:=fun r s' => r = w /\ EP X pins σ Q r s') pl.isList (by omega) (by rw [List.size_toArray] <;> omega) (by omega) (by rw [hj]; simpa using ew) ⟨rfl,fin⟩) hs
theorem ix_tup : IxR X (rIxT X.K):=by
 intro value slice pins s σ H x y v u Q I rx ry h hs
 obtain ⟨p,xs,i,z,rfl,rfl,hq,he,q⟩:=h
 cases rx
 obtain ⟨t,rfl⟩:=ry
 obtain ⟨its,r,pl,hz⟩:=I.tuple hq
 obtain ⟨j,h1,h2,h3,h4,h5⟩:=atI_get he
 obtain ⟨w,ew,rw'⟩:=r.get h2
 have hl:=r.length
 have hn:=line63
 have fin : EP X pins σ Q w s:=⟨z,H,I,rw',q⟩
 exact subscriptTail_builtinR (x:=w) pl.typeIs slot_tuple_getitem.lookup
  (getItem_tuple (j:=j) (Q:=fun r s' => r = w /\ EP X pins σ Q r s') pl (by omega) (by omega) (by rw [List.size_toArray,<- hl]; exact h1) (by simpa using ew) ⟨rfl,fin⟩) hs
theorem ix_str : IxR X rIxS:=by
 intro value slice pins s σ H x y v u Q I rx ry h hs
 obtain ⟨z,i,c,rfl,rfl,hz,he,q⟩:=h
 obtain ⟨t,rfl⟩:=rx
 obtain ⟨t',rfl⟩:=ry
 obtain ⟨j,h1,h2,h3,h4,h5⟩:=atI_get he
 have hl : z.cps.toList.length = z.length:=by simp [Str.length]
 rw [hl] at h1 h4 h5
 have hn:=line63
 exact tail_any (typeIs_str s z t) slot_str_getitem.lookup (getItem_str (c:=c) (by
  have e1 : decide (i < -(2 ^ 63 : Int)) = false:=decide_eq_false (by omega)
  have e2 : decide (i ≥ 2 ^ 63) = false:=decide_eq_false (by omega)
  rw [e1,e2,Bool.or_false]) (by rw [h1]; simpa using h2) ⟨.str ⟨#[c]⟩,H,I.tok _,⟨_,rfl⟩,q⟩) hs
def rIx (K : PySem.W.Frag) : R2:=fun x y H Q => rIxL K x y H Q \/ rIxT K x y H Q \/ rIxS x y H Q
theorem ix_seq : IxR X (rIx X.K):=ix_list.or (ix_tup.or ix_str)
theorem mapSeq_set (its : List Value) (n j : Nat) (u : Value) : Obj.mapSeq (·.setIfInBounds j u) { cls:=.type "list",data:=.seq its.toArray n } = { cls:=.type "list",data:=.seq (its.set j u).toArray n }:=by
 simp [Obj.mapSeq]
theorem Inv.lst {pins : List (Addr × Obj)} {σ : St} {H : Hp} {s : Shared} {p : Addr} {xs : List V} (I : Inv X pins σ H s) (h : H p = some (.lst xs)) :
  ∃ (its : List Value) (n : Nat),Vals xs its /\ s.heap.get? p = some { cls:=.type "list",data:=.seq its.toArray n } /\ xs.length <= sizeLine:=by
 obtain ⟨z,its,n,r,e⟩:=I.hok p _ h
 exact ⟨its,n,r,e,z⟩
theorem Inv.lstUpd {pins : List (Addr × Obj)} {σ : St} {H : Hp} {s : Shared} {p : Addr} {xs ys : List V} {its its' : List Value} {n n' : Nat} {f : Obj -> Obj} (I : Inv X pins σ H s) (h : H p = some (.lst xs))
  (ho : s.heap.get? p = some { cls:=.type "list",data:=.seq its.toArray n }) (hf : f { cls:=.type "list",data:=.seq its.toArray n } = { cls:=.type "list",data:=.seq its'.toArray n' }) (r : Vals ys its') (hz : ys.length <= sizeLine) (t : Nat) :
  Inv X pins σ (upd H p (.lst ys)) { s with heap:=s.heap.update p f,toks:=t }:=by
 have e : (s.heap.update p f).get? p = some { cls:=.type "list",data:=.seq its'.toArray n' }:=by
  rw [Heap.get?_update_self f ho (by rw [hf] <;> rfl),hf]
 refine I.write (x:=p) (e:=p) (by rw [h]; trivial) (.inl rfl) (fun b u hb q => (Heap.get?_update_other _ _ (Ne.symm hb)).trans q) ⟨_,e⟩ ?_
 exact ⟨hz,its',n',r,e⟩
def rSetL : V -> V -> V -> Hp -> (Hp -> Prop) -> Prop:=fun o i v H Q => ∃ p xs k j,o = .ref p /\ i = .int k /\ H p = some (.lst xs) /\ ixN xs.length k = some j /\ Q (upd H p (.lst (xs.set j v)))
theorem set_list : PSet X rSetL:=by
 intro pins s σ H o i v ov iv u Q I ro ri rv h
 obtain ⟨p,xs,k,j,rfl,rfl,hp,hj,q⟩:=h
 cases ro
 obtain ⟨t,rfl⟩:=ri
 obtain ⟨its,n,r,ho,hz⟩:=I.lst hp
 obtain ⟨h1,h2,h3,h4⟩:=ixN_seq hj
 have hl:=r.length
 have hn:=line63
 have I' : Inv X pins σ (upd H p (.lst (xs.set j v))) { s with heap:=s.heap.update p (Obj.mapSeq (·.setIfInBounds j u)) } :=
  I.lstUpd hp ho (mapSeq_set its n j u) (r.set rv j) (by rw [List.length_set]; exact hz) s.toks
 by_cases h0 : 0 <= k
 ·
  have hk : k.toNat = j:=by
   rw [seqIndex_of h0 h4] at h1
   exact Option.some.inj h1
  exact PySem.W.ki_setAt ho h0 (by omega) (by rw [List.size_toArray,<- hl]; exact h4) (by rw [hk]; exact ⟨_,I',q⟩)
 ·
  have hk : (k + (its.toArray.size : Int)).toNat = j:=by
   rw [seqIndex_neg (by omega) h3] at h1
   rw [List.size_toArray,<- hl]
   exact Option.some.inj h1
  exact PySem.W.ki_setBack ho (by omega) (by rw [List.size_toArray,<- hl]; exact h3) (by omega) (by rw [hk]; exact ⟨_,I',q⟩)
theorem slice_bounds (lo hi : Option Int) (n : Nat) : (sliceBounds lo hi none n).1 = ((HT.sIx n 0 lo : Nat) : Int) /\ (sliceBounds lo hi none n).2.1 = ((HT.sIx n n hi : Nat) : Int) /\ (sliceBounds lo hi none n).2.2 = 1:=by
 refine ⟨?_,?_,rfl⟩
 ·
  cases lo with
  | none => simp [sliceBounds,HT.sIx]
  | some i =>
   simp only [sliceBounds,HT.sIx,Option.getD_none,show (1 : Int) > 0 by decide,if_true]
   by_cases h : i < 0
   ·
    simp only [h,if_true] <;> omega
   ·
    simp only [h,if_false] <;> omega
 ·
  cases hi with
  | none => simp [sliceBounds,HT.sIx]
  | some i =>
   simp only [sliceBounds,HT.sIx,Option.getD_none,show (1 : Int) > 0 by decide,if_true]
   by_cases h : i < 0
   ·
    simp only [h,if_true] <;> omega
   ·
    simp only [h,if_false] <;> omega
theorem slicePick_cut (its : List Value) (lo hi : Option Int) : slicePick its.toArray lo hi none = ((its.drop (HT.sIx its.length 0 lo)).take (HT.sIx its.length its.length hi - HT.sIx its.length 0 lo)).toArray:=by
 obtain ⟨h1,h2,h3⟩:=slice_bounds lo hi its.toArray.size
 unfold slicePick
 rw [h1,h2,h3]
 simp only [sliceRange_one,pick_run,List.size_toArray] <;> rfl
def rSlL (K : PySem.W.Frag) : V -> Option Int -> Option Int -> Hp -> VK -> Prop:=fun x lo hi H Q => ∃ a xs,x = .ref a /\ SqL K H a xs /\ ∀ p,H p = none -> Q (.ref p) (upd H p (.lst (cutV xs lo hi)))
theorem sl_list : SlR X (rSlL X.K):=by
 intro pins s σ H x v vl vu lo hi sl Q I rx hs pl pu h
 obtain ⟨a,xs,rfl,hx,q⟩:=h
 cases rx
 obtain ⟨its,r,ht,hz⟩:=I.list hx
 have hlen:=r.length
 refine ⟨"list",_,slot_list_getitem.lookup,ht.isList.typeIs,?_⟩
 refine wpAny_getItem_list_slice ht.isList hs pl pu .none (by simp) ?_ (by rw [List.size_toArray] <;> omega)
 rw [slicePick_cut,<- hlen]
 refine ⟨.ref s.heap.objs.size,_,I.laid (t':=s.toks) (o:=.lst (cutV xs lo hi)) (fun b ob q => Heap.get?_push_of_some _ q) (Nat.le_refl _) ?_,rfl,q _ (I.hok.fresh (Nat.le_refl _))⟩
 exact ⟨Nat.le_trans (cutV_length xs lo hi) hz,_,0,(r.drop (HT.sIx xs.length 0 lo)).take (HT.sIx xs.length xs.length hi - HT.sIx xs.length 0 lo),Heap.get?_push_size _ rfl⟩
theorem call_len_seq : CallR X (.builtin "len") (fun xs H Q => ∃ p ys,xs = [.ref p] /\ (SqL X.K H p ys \/ SqT X.K H p ys) /\ Q (.int ys.length) H):=by
 intro pins s σ H xs us Q I r h
 obtain ⟨p,ys,rfl,hq,q⟩:=h
 obtain ⟨u,rfl,rx⟩:=vals1 r
 cases rx
 have hn:=line63
 rcases hq with hq | hq
 ·
  obtain ⟨its,r',pl,hz⟩:=I.list hq
  have hlen:=r'.length
  exact Calls.call_len_list pl.isList (by simp only [List.size_toArray] <;> omega) ⟨.int ys.length,H,I.tok _,⟨s.toks + 1,by rw [List.size_toArray,hlen]⟩,q⟩
 ·
  obtain ⟨its,r',pl,hz⟩:=I.tuple hq
  have hlen:=r'.length
  exact len_tuple pl (by simp only [List.size_toArray] <;> omega) ⟨.int ys.length,H,I.tok _,⟨s.toks + 1,by rw [List.size_toArray,hlen]⟩,q⟩
theorem call_len_str : CallR X (.builtin "len") (fun xs H Q => ∃ z,xs = [.str z] /\ z.length <= sizeLine /\ Q (.int z.length) H):=by
 intro pins s σ H xs us Q I r h
 obtain ⟨z,rfl,hz,q⟩:=h
 obtain ⟨u,rfl,t,rfl⟩:=vals1 r
 have hn:=line63
 exact len_str (by omega) ⟨.int z.length,H,I.tok _,⟨_,rfl⟩,q⟩
theorem CallR.or {f : Value} {r r' : List V -> Hp -> VK -> Prop} (h : CallR X f r) (h' : CallR X f r') : CallR X f (fun xs H Q => r xs H Q \/ r' xs H Q):=by
 intro pins s σ H xs us Q I rs q
 rcases q with q | q
 ·
  exact h pins s σ H xs us Q I rs q
 ·
  exact h' pins s σ H xs us Q I rs q
theorem call_list_of : CallR X (.type "list") (fun xs H Q => ∃ p ys,xs = [.ref p] /\ (SqL X.K H p ys \/ SqT X.K H p ys) /\ ∀ l,H l = none -> Q (.ref l) (upd H l (.lst ys))):=by
 intro pins s σ H xs us Q I r h
 obtain ⟨p,ys,rfl,hq,q⟩:=h
 obtain ⟨u,rfl,rx⟩:=vals1 r
 cases rx
 have fin : ∀ (its : List Value),Vals ys its -> ys.length <= sizeLine -> ∀ (h' : Heap) (c' : Nat),(∀ b o',s.heap.get? b = some o' -> h'.get? b = some o') ->
   h'.get? s.heap.objs.size = some { cls:=.type "list",dict:=none,data:=.seq its.toArray c',slots:=#[] } -> EP X pins σ Q (.ref s.heap.objs.size) { s with heap:=h' }:=fun its r' hz h' c' kp e =>
  ⟨.ref s.heap.objs.size,_,I.laid (t':=s.toks) kp (Nat.le_refl _) (show ObjOk X.prog X.w _ h' _ (.lst ys) from ⟨hz,its,c',r',e⟩),rfl,q _ (I.hok.fresh (Nat.le_refl _))⟩
 rcases hq with hq | hq
 ·
  obtain ⟨its,r',pl,hz⟩:=I.list hq
  have hlen:=r'.length
  obtain ⟨o,ho,hc,n,hd⟩:=pl.isList
  exact call_list_seq p (.inl rfl) ho hc hd (fun h' c' kp e => fin its r' hz h' c' kp e) (by simp only [List.size_toArray] <;> omega)
 ·
  obtain ⟨its,r',pl,hz⟩:=I.tuple hq
  have hlen:=r'.length
  obtain ⟨o,ho,hc,n,hd⟩:=pl
  exact call_list_seq p (.inr rfl) ho hc hd (fun h' c' kp e => fin its r' hz h' c' kp e) (by simp only [List.size_toArray] <;> omega)
theorem call_tuple_of : CallR X (.type "tuple") (fun xs H Q => ∃ p ys,xs = [.ref p] /\ ((SqL X.K H p ys /\ ∀ l,H l = none -> Q (.ref l) (upd H l (.tup ys))) \/ (SqT X.K H p ys /\ Q (.ref p) H))):=by
 intro pins s σ H xs us Q I r h
 obtain ⟨p,ys,rfl,h⟩:=h
 obtain ⟨u,rfl,rx⟩:=vals1 r
 cases rx
 rcases h with ⟨hq,q⟩ | ⟨hq,q⟩
 ·
  obtain ⟨its,r',pl,hz⟩:=I.list hq
  have hlen:=r'.length
  refine call_tuple_list pl.isList (fun h' kp => ?_) (by simp only [List.size_toArray] <;> omega)
  have I1 : Inv X pins σ H { s with heap:=h' }:=I.kept (t':=s.toks) kp
  have I2 : Inv X pins σ (upd H h'.objs.size (.tup ys)) { s with heap:=h'.push { cls:=.type "tuple",data:=.seq its.toArray } } :=
   I1.laid (t':=s.toks) (fun b o e => Heap.get?_push_of_some _ e) (Nat.le_refl _) (show ObjOk X.prog X.w _ _ _ (.tup ys) from ⟨hz,its,r',Tup0.new _ _⟩)
  exact ⟨.ref h'.objs.size,_,I2,rfl,q _ (I1.hok.fresh (Nat.le_refl _))⟩
 ·
  obtain ⟨its,r',pl,hz⟩:=I.tuple hq
  exact call_tuple_same pl ⟨.ref p,H,I,rfl,q⟩
def tyV (K : PySem.W.Frag) (T : String) (x : V) (H : Hp) : Prop:=match x with
 | .str _ => T = "str"
 | .int _ => T = "int"
 | .ref p => (T = "list" /\ ∃ xs,SqL K H p xs) \/ (T = "tuple" /\ ∃ xs,SqT K H p xs) \/
   (T = "dict" /\ ((∃ kvs,H p = some (.dK kvs)) \/ ∃ kvs,H p = some (.dT kvs))) \/ (T = "set" /\ ∃ S n,H p = some (.set S n))
 | _ => False
theorem tyV_is {pins : List (Addr × Obj)} {σ : St} {H : Hp} {s : Shared} {T : String} {x : V} {v : Value} (I : Inv X pins σ H s) (r : RelV x v) (ty : tyV X.K T x H) :
  s.TypeIs v T /\ ∀ a,v = .ref a -> ∃ ob,s.heap.get? a = some ob /\ ob.dict = none:=by
 cases x with
 | str z =>
  obtain ⟨t,rfl⟩:=r
  cases (show T = "str" from ty)
  exact ⟨typeIs_str s z t,fun _ e => nomatch e⟩
 | int i =>
  obtain ⟨t,rfl⟩:=r
  cases (show T = "int" from ty)
  exact ⟨typeIs_int s i t,fun _ e => nomatch e⟩
 | ref p =>
  cases r
  rcases ty with ⟨rfl,xs,hq⟩ | ⟨rfl,xs,hk⟩ | ⟨rfl,hk⟩ | ⟨rfl,S,n,hk⟩
  ·
   obtain ⟨its,_,pl,_⟩:=I.list hq
   refine ⟨pl.isList.typeIs,fun a e => ?_⟩
   cases e
   obtain ⟨o,n,e,c,hd,_⟩:=pl
   exact ⟨o,e,hd⟩
  ·
   rcases hk with hk | ⟨o,its,n,hk,hc,hd,_⟩
   ·
    obtain ⟨_,its,r,o,ho,hc,n,hd,hn⟩:=hk.ok I.hok
    refine ⟨⟨o,ho,hc⟩,fun a e => ?_⟩
    cases e
    exact ⟨o,ho,hn⟩
   ·
    refine ⟨⟨o,I.kIn p o hk,hc⟩,fun a e => ?_⟩
    cases e
    exact ⟨o,I.kIn _ o hk,hd⟩
  ·
   have z : ∃ o,s.heap.get? p = some o /\ o.ExactDict:=by
    rcases hk with ⟨kvs,hk⟩ | ⟨kvs,hk⟩
    ·
     obtain ⟨_,_,_,_,o,_,_,e,ex,_⟩:=I.hok p _ hk
     exact ⟨o,e,ex⟩
    ·
     obtain ⟨_,_,_,_,o,_,_,e,ex,_⟩:=I.hok p _ hk
     exact ⟨o,e,ex⟩
   obtain ⟨o,e,ex⟩:=z
   refine ⟨⟨o,e,ex.1⟩,fun a e2 => ?_⟩
   cases e2
   exact ⟨o,e,ex.2.1⟩
  ·
   obtain ⟨o,_,_,_,e,ex,_⟩:=I.hok p _ hk
   refine ⟨⟨o,e,ex.1⟩,fun a e2 => ?_⟩
   cases e2
   exact ⟨o,e,ex.2.1⟩
 | _ => exact False.elim ty
def tBM (K : PySem.W.Frag) (T : String) (r : V -> List V -> Hp -> VK -> Prop) (to : TE) (t : TA) : TE:=fun σ H Q => to σ H fun x H1 => tyV K T x H1 /\ t σ H1 fun xs H2 => r x xs H2 Q
variable {o e : Expr} {es : List Expr} {to : TE} {t : TA} {name : Str} {apos cpos : Pos} {T id : String} {r : V -> List V -> Hp -> VK -> Prop}
theorem pe_bm (pa : PlainAttrs T) (slot : Slot T name id) (hty : typeOf (.builtin id) = pure (.type "method_descriptor")) (hm : MtR X id r) (ho : PE X o to) (ha : PA X (e :: es) t)
  (hbase : attributeBase o name X.env (eval o X.env) = eval o X.env:=by rfl)
  (hfew : ((backTo cpos (starEach (e :: es) X.env)).all (fun x => !x.1) && (backToKw cpos (keywordEach [] X.env)).all (fun x => x.1.isSome)
   && decide ((e :: es).length + ([] : List Keyword).length + (if ([] : List Keyword).isEmpty then 0 else 1) < 30)) = true:=by rfl)
  (hline : (apos.endLine == cpos.line) = true:=by rfl) (hs : starEach (e :: es) X.env = (false,eval e X.env) :: starEach es X.env:=by rfl) (hplain : (backTo cpos (starEach es X.env)).any (·.1) = false:=by rfl) :
  PE X (.Call (.Attribute o name apos) (e :: es) [] cpos) (tBM X.K T r to t):=by
 intro pins s σ H Q I h
 refine wpAny_Call_method_late hbase hfew hline rfl (thn (ho pins s σ H _ I h) fun v s1 ⟨x,H1,I1,r1,ty,q1⟩ => ?_)
 obtain ⟨h1,h2⟩:=tyV_is I1 r1 ty
 refine ⟨T,id,pa,slot,hty,h1,h2,?_⟩
 have hA:=ha cpos pins s1 σ H1 _ I1 q1
 rw [hs] at hA ⊢
 refine Calls.callWith_builtin (by show (false || (backTo cpos (starEach es X.env)).any (·.1)) = false; rw [hplain] <;> rfl) (Calls.evalArgs_plain ?_)
 exact thn hA fun us s2 ⟨vs,H2,I2,r2,q2⟩ => hm pins s2 σ H2 x vs v us Q I2 r1 r2 q2
/- xs.append(e),list.index on a module's tuple .. are MtR facts of 06m -/
end
end L2
namespace L2
open PySem PySem.Spec PyProof.Rows
def MtM (X : Cx) (id : String) (r : V -> List V -> Hp -> VK -> Prop) : Prop :=
 ∀ (pins : List (Addr × Obj)) (s : Shared) (σ : St) (H : Hp) (x : V) (xs : List V) (v : Value) (us : List Value) (Q : VK),Inv X pins σ H s -> RelV x v -> Vals xs us -> r x xs H Q ->
  wpAny (model X.prog X.w) X.A (call (.builtin id) (v :: us)) (EP X pins σ Q) X.xe s
theorem Vals.one {x : V} {us : List Value} (r : Vals [x] us) : ∃ u,us = [u] /\ RelV x u:=vals1 r
theorem Vals.two {x y : V} {us : List Value} (r : Vals [x,y] us) : ∃ u v,us = [u,v] /\ RelV x u /\ RelV y v:=vals2 r
theorem Vals.zero : ∀ {us : List Value},Vals [] us -> us = []
 | _,.nil => rfl
theorem Vals.eraseIdx : ∀ {xs : List V} {us : List Value} (i : Nat),Vals xs us -> Vals (xs.eraseIdx i) (us.eraseIdx i)
 | _,_,_,.nil => .nil
 | _,_,0,.cons _ t => t
 | _,_,i + 1,.cons r t => .cons r (Vals.eraseIdx i t)
theorem Vals.reverse {xs : List V} {us : List Value} (h : Vals xs us) : Vals xs.reverse us.reverse:=by
 induction h with
 | nil => exact .nil
 | cons r t ih => rw [List.reverse_cons,List.reverse_cons]; exact Vals.append ih (.cons r .nil)
theorem Vals.rep {xs : List V} {us : List Value} (h : Vals xs us) : ∀ k : Nat,Vals (List.replicate k xs).flatten (List.replicate k us).flatten
 | 0 => .nil
 | k + 1 => by
  rw [List.replicate_succ,List.replicate_succ,List.flatten_cons,List.flatten_cons]
  exact Vals.append h (Vals.rep h k)
theorem len_erase {α : Type} : ∀ (l : List α) (i : Nat),(l.eraseIdx i).length <= l.length
 | [],_ => Nat.le_refl _
 | _ :: _,0 => Nat.le_succ _
 | _ :: r,i + 1 => Nat.succ_le_succ (len_erase r i)
theorem foldl_rep (its : List Value) : ∀ (k : Nat) (acc : List Value),
  List.foldl (fun x1 x2 => x1 ++ x2) acc.toArray (List.replicate k its.toArray) = (acc ++ (List.replicate k its).flatten).toArray
 | 0,acc => by simp
 | k + 1,acc => by
  have e : acc.toArray ++ its.toArray = (acc ++ its).toArray:=by simp
  have e2 : (acc ++ its) ++ (List.replicate k its).flatten = acc ++ (List.replicate (k + 1) its).flatten:=by
   rw [List.replicate_succ,List.flatten_cons,List.append_assoc]
  rw [<- e2,<- foldl_rep its k (acc ++ its),<- e,List.replicate_succ,List.foldl_cons]
section
variable {X : Cx} {pins : List (Addr × Obj)} {σ : St} {H : Hp} {s : Shared} {l b : Addr} {xs ys zs : List V}
theorem Inv.lset {its its' : List Value} {n : Nat} {f : Array Value -> Array Value} {t' : Nat} (I : Inv X pins σ H s) (hH : H l = some (.lst xs))
  (e : s.heap.get? l = some { cls:=.type "list",data:=.seq its.toArray n }) (hf : f its.toArray = its'.toArray) (hv : Vals ys its') (hz : ys.length <= sizeLine) :
  Inv X pins σ (upd H l (.lst ys)) { s with heap:=s.heap.update l (Obj.mapSeq f),toks:=t' }:=by
 have q:=PySem.IsL.update e f
 rw [hf] at q
 refine I.write (x:=l) (e:=l) (by rw [hH]; exact trivial) (.inl rfl) (fun b' u hb hu => (Heap.get?_update_other s.heap (Obj.mapSeq f) (Ne.symm hb)).trans hu) ⟨_,q⟩ ?_
 exact ⟨hz,its',_,hv,q⟩
theorem Inv.lnew {its : List Value} {t' : Nat} (I : Inv X pins σ H s) (hv : Vals ys its) (hz : ys.length <= sizeLine) :
  Inv X pins σ (upd H s.heap.objs.size (.lst ys)) { s with heap:=s.heap.push { cls:=.type "list",data:=.seq its.toArray },toks:=t' } :=
 I.laid (fun _ _ q => Heap.get?_push_of_some _ q) (Nat.le_refl _) ⟨hz,its,0,hv,Heap.get?_push_size _ rfl⟩
theorem Inv.fresh (I : Inv X pins σ H s) : H s.heap.objs.size = none:=I.hok.fresh (Nat.le_refl _)
theorem Inv.lstM (I : Inv X pins σ H s) (hH : H l = some (.lst xs)) : xs.length <= sizeLine /\ ∃ (its : List Value) (n : Nat),Vals xs its /\ xs.length = its.length /\ s.heap.get? l = some { cls:=.type "list",data:=.seq its.toArray n }:=by
 obtain ⟨z,its,n,r,e⟩:=I.hok l _ hH
 exact ⟨z,its,n,r,r.length,e⟩
theorem notLongL {n : Nat} (h : n <= sizeLine) : Builtin.List.listTooLong n = false:=by
 unfold Builtin.List.listTooLong
 exact decide_eq_false (by omega)
end
section
variable {X : Cx}
def rAppend : V -> List V -> Hp -> VK -> Prop:=fun x vs H Q => ∃ l xs y,x = .ref l /\ vs = [y] /\ H l = some (.lst xs) /\ xs.length < sizeLine /\ Q .non (upd H l (.lst (xs ++ [y])))
theorem mt_append : MtM X "list.append" rAppend:=by
 intro pins s σ H x vs v us Q I rx rv h
 obtain ⟨l,xs,y,rfl,rfl,hH,hz,q⟩:=h
 cases rx
 obtain ⟨u,rfl,ru⟩:=rv.one
 obtain ⟨z,its,n,r,hl,e⟩:=I.lstM hH
 refine call_meets F.slot_list_append ⟨_,e,rfl⟩ F.entry_list_append (F.args_list_append_2 _ _) (PySem.list_append l its.toArray n u (by rw [List.size_toArray]; omega)) ⟨e,?_⟩
 refine ⟨.non,_,I.lset (its':=its ++ [u]) hH e (by simp) (r.append (.cons ru .nil)) ?_,rfl,q⟩
 rw [List.length_append,List.length_singleton]
 omega
def rExtend : V -> List V -> Hp -> VK -> Prop:=fun x vs H Q => ∃ l b xs zs,x = .ref l /\ vs = [.ref b] /\ H l = some (.lst xs) /\ H b = some (.lst zs) /\ xs.length + zs.length <= sizeLine /\ Q .non (upd H l (.lst (xs ++ zs)))
theorem mt_extend : MtM X "list.extend" rExtend:=by
 intro pins s σ H x vs v us Q I rx rv h
 obtain ⟨l,b,xs,zs,rfl,rfl,hH,hB,hz,q⟩:=h
 cases rx
 obtain ⟨u,rfl,ru⟩:=rv.one
 cases ru
 obtain ⟨z,its,n,r,hl,e⟩:=I.lstM hH
 obtain ⟨z2,its2,n2,r2,hl2,e2⟩:=I.lstM hB
 have hsz : its.toArray.size + its2.toArray.size <= sizeLine:=by rw [List.size_toArray,List.size_toArray]; omega
 have hlong : ¬ (!its.toArray.isEmpty && Builtin.List.listTooLong (its.toArray.size + its2.toArray.size)) = true:=by
  rw [notLongL hsz,Bool.and_false]
  exact Bool.false_ne_true
 refine call_meets F.slot_list_extend ⟨_,e,rfl⟩ F.entry_list_extend (F.args_list_extend_2 _ _)
  (AutoSeq1.list_extend_list_list_0 l its.toArray n b its2.toArray n2 hlong (by rw [List.size_toArray]; omega) (by omega)) ⟨e,e2,?_⟩
 refine ⟨.non,_,I.lset (its':=its ++ its2) hH e (by simp) (r.append r2) ?_,rfl,q⟩
 rw [List.length_append]
 omega
def rPopAt : V -> List V -> Hp -> VK -> Prop:=fun x vs H Q => ∃ l xs i k y,x = .ref l /\ vs = [.int i] /\ H l = some (.lst xs) /\ -(2 ^ 63) <= i /\ i < 2 ^ 63 /\ seqIndex? i xs.length = some k /\ xs[k]? = some y /\ Q y (upd H l (.lst (xs.eraseIdx k)))
theorem mt_popAt : MtM X "list.pop" rPopAt:=by
 intro pins s σ H x vs v us Q I rx rv h
 obtain ⟨l,xs,i,k,y,rfl,rfl,hH,h1,h2,hk,hy,q⟩:=h
 cases rx
 obtain ⟨u,rfl,ru⟩:=rv.one
 obtain ⟨t,rfl⟩:=ru
 obtain ⟨z,its,n,r,hl,e⟩:=I.lstM hH
 obtain ⟨w,hw,rw'⟩:=r.get hy
 refine call_meets F.slot_list_pop ⟨_,e,rfl⟩ F.entry_list_pop (F.args_list_pop_2 _ _)
  (MeetsSeq.list_pop_at l its.toArray n i t k w (fitsIndex_both h1 h2) (by rw [List.size_toArray,<- hl]; exact hk) (by rw [<- Array.getElem?_toList]; exact hw) (by rw [List.size_toArray]; omega)) ⟨e,?_⟩
 refine ⟨y,_,I.lset (its':=its.eraseIdx k) hH e ?_ (r.eraseIdx k) ?_,rw',q⟩
 ·
  show its.toArray.eraseIdxIfInBounds k = (its.eraseIdx k).toArray
  rw [List.eraseIdxIfInBounds_toArray]
 ·
  have:=len_erase xs k
  omega
def rCat : R2:=fun x y H Q => ∃ l b xs zs,x = .ref l /\ y = .ref b /\ H l = some (.lst xs) /\ H b = some (.lst zs) /\ xs.length + zs.length <= sizeLine /\ ∀ p,H p = none -> Q (.ref p) (upd H p (.lst (xs ++ zs)))
theorem op_cat : OpR X (binaryOp .Add) rCat:=by
 intro pins s σ H x y v u Q I rx ry h
 obtain ⟨l,b,xs,zs,rfl,rfl,hH,hB,hz,q⟩:=h
 cases rx
 cases ry
 obtain ⟨z,its,n,r,hl,e⟩:=I.lstM hH
 obtain ⟨z2,its2,n2,r2,hl2,e2⟩:=I.lstM hB
 refine PySem.P.add_list e e2 ?_ (by rw [List.size_toArray,List.size_toArray]; omega)
 have ea : its.toArray ++ its2.toArray = (its ++ its2).toArray:=by simp
 rw [ea]
 exact ⟨.ref _,_,I.lnew (t':=s.toks) (r.append r2) (by rw [List.length_append]; omega),rfl,q _ I.fresh⟩
def rRep : R2:=fun x y H Q => ∃ l k xs,x = .ref l /\ y = .int k /\ H l = some (.lst xs) /\ -(2 ^ 63) <= k /\ k < 2 ^ 63 /\ xs.length * k.toNat <= sizeLine /\
 ∀ p,H p = none -> Q (.ref p) (upd H p (.lst (List.replicate k.toNat xs).flatten))
theorem len_rep {α : Type} (xs : List α) (k : Nat) : (List.replicate k xs).flatten.length = k * xs.length:=by
 induction k with
 | zero => simp
 | succ k ih => rw [List.replicate_succ,List.flatten_cons,List.length_append,ih,Nat.succ_mul,Nat.add_comm]
theorem op_rep : OpR X (binaryOp .Mult) rRep:=by
 intro pins s σ H x y v u Q I rx ry h
 obtain ⟨l,k,xs,rfl,rfl,hH,h1,h2,hz,q⟩:=h
 cases rx
 obtain ⟨t,rfl⟩:=ry
 obtain ⟨z,its,n,r,hl,e⟩:=I.lstM hH
 have hlen : its.toArray.size * k.toNat <= sizeLine:=by rw [List.size_toArray,<- hl]; exact hz
 have hcap : ¬ its.toArray.size * k.toNat > (2 ^ 63 - 1) / 8:=by
  have : (sizeLine : Nat) <= (2 ^ 63 - 1) / 8:=by decide
  omega
 have hfit : ¬ (!Builtin.List.listFitsIndex k) = true:=by
  rw [fitsIndex_both h1 h2]
  exact Bool.false_ne_true
 have hlong : ¬ Builtin.List.listTooLong (its.toArray.size * k.toNat) = true:=by
  rw [notLongL hlen]
  exact Bool.false_ne_true
 have hnew : List.foldl (fun x1 x2 => x1 ++ x2) #[] (List.replicate (if its.toArray.isEmpty = true then 0 else k.toNat) its.toArray) = (List.replicate k.toNat its).flatten.toArray:=by
  have f0 : ∀ m : Nat,List.foldl (fun x1 x2 => x1 ++ x2) #[] (List.replicate m its.toArray) = (List.replicate m its).flatten.toArray:=fun m => by
   have:=foldl_rep its m []
   rw [List.nil_append] at this
   exact this
  rw [f0]
  cases its with
  | nil => simp
  | cons a r' => rw [if_neg (by simp)]
 refine wpAny_binaryOp_repeat_ref (T:="list") (U:="int") (by decide) ⟨_,e,rfl⟩ (fun s' => typeIs_int s' k t) noFill_list_mul F.fills_int_mul F.slot_int_rmul repeat_list F.slot_int_index.lookup
  (call_meets F.slot_int_rmul (typeIs_int s k t) F.entry_int_rmul (F.args_int_rmul_2 _ _) (int___rmul___int_list k t l its.toArray n)
   ⟨e,rfl,⟨_,e,rfl⟩,call_meets F.slot_list_mul ⟨_,e,rfl⟩ F.entry_list_mul (F.args_list_mul_2 _ _) (AutoListH.list___mul___list_int_3 l its.toArray n k t hfit hcap hlong) ⟨e,?_⟩⟩)
 rw [hnew]
 exact ⟨.ref _,_,I.lnew (t':=s.toks) (r.rep k.toNat) (by rw [len_rep,Nat.mul_comm]; exact hz),rfl,q _ I.fresh⟩
end
section
variable {prog : Program} {w : World} {A : Around} {E : Value -> Shared -> Prop} {s : Shared}
set_option maxRecDepth 100000 in
end
section
variable {X : Cx}
end
end L2
namespace L2
open PySem PySem.Spec PyProof.Rows
section
variable {κ : Type} [DecidableEq κ]
noncomputable def valV (kvs : List (κ × V)) (k : κ) : Option V:=(kvs.find? fun kv => decide (kv.1 = k)).map (·.2)
noncomputable def putK (kvs : List (κ × V)) (k : κ) (v : V) : List (κ × V) :=
 if (kvs.any fun kv => decide (kv.1 = k)) = true then kvs.map (fun kv => if kv.1 = k then (kv.1,v) else kv) else kvs ++ [(k,v)]
noncomputable def dropK (kvs : List (κ × V)) (k : κ) : List (κ × V):=kvs.filter fun kv => decide (kv.1 ≠ k)
theorem valV_pos {p : κ × V} {r : List (κ × V)} {k : κ} (e : p.1 = k) : valV (p :: r) k = some p.2:=by simp [valV,List.find?_cons,e]
theorem valV_neg {p : κ × V} {r : List (κ × V)} {k : κ} (e : ¬ p.1 = k) : valV (p :: r) k = valV r k:=by simp [valV,List.find?_cons,e]
theorem valV_any (k : κ) : ∀ kvs : List (κ × V),(kvs.any fun kv => decide (kv.1 = k)) = (valV kvs k).isSome
 | [] => rfl
 | p :: r => by
  rw [List.any_cons]
  by_cases e : p.1 = k
  ·
   simp only [valV_pos e,decide_eq_true e,Bool.true_or,Option.isSome_some]
  ·
   rw [valV_neg e,decide_eq_false e,Bool.false_or]; exact valV_any k r
theorem length_putK (kvs : List (κ × V)) (k : κ) (v : V) : (putK kvs k v).length <= kvs.length + 1:=by
 unfold putK
 split
 ·
  rw [List.length_map]; omega
 ·
  rw [List.length_append,List.length_cons,List.length_nil]; omega
theorem RelO.isSome_eq {o : Option V} {u : Option Value} (r : RelO o u) : o.isSome = u.isSome:=by
 cases o with
 | none => cases u with
  | none => rfl
  | some _ => exact (show False from r).elim
 | some _ => cases u with
  | none => exact (show False from r).elim
  | some _ => rfl
theorem RelO.getD {o : Option V} {u : Option Value} {d : V} {d' : Value} (r : RelO o u) (rd : RelV d d') : RelV (o.getD d) (u.getD d'):=by
 cases o with
 | none => cases u with
  | none => exact rd
  | some _ => exact (show False from r).elim
 | some _ => cases u with
  | none => exact (show False from r).elim
  | some _ => exact r
theorem KV.val {kvs : List (κ × V)} {vs : List (κ × Value)} (r : KV kvs vs) (k : κ) : RelO (valV kvs k) (valueAt vs k):=by
 unfold KV at r
 induction r with
 | nil => exact True.intro
 | @cons p q ps qs h t ih =>
  obtain ⟨h1,h2⟩:=h
  by_cases e : p.1 = k
  ·
   have e' : q.1 = k:=h1.symm.trans e
   have b : valueAt (q :: qs) k = some q.2:=by simp [valueAt,List.find?_cons,e']
   rw [valV_pos e,b]; exact h2
  ·
   have e' : ¬ q.1 = k:=fun z => e (h1.trans z)
   have b : valueAt (q :: qs) k = valueAt qs k:=by simp [valueAt,List.find?_cons,e']
   rw [valV_neg e,b]; exact ih
theorem KV.any {kvs : List (κ × V)} {vs : List (κ × Value)} (r : KV kvs vs) (k : κ) : (kvs.any fun kv => decide (kv.1 = k)) = vs.any fun kv => decide (kv.1 = k):=by
 unfold KV at r
 induction r with
 | nil => rfl
 | cons h t ih => rw [List.any_cons,List.any_cons,ih,h.1]
theorem KV.repl {kvs : List (κ × V)} {vs : List (κ × Value)} (r : KV kvs vs) (k : κ) {y : V} {u : Value} (ry : RelV y u) :
  KV (kvs.map fun kv => if kv.1 = k then (kv.1,y) else kv) (vs.map fun kv => if kv.1 = k then (kv.1,u) else kv):=by
 unfold KV at r ⊢
 induction r with
 | nil => exact .nil
 | @cons p q ps qs h t ih =>
  rw [List.map_cons,List.map_cons]
  refine .cons ?_ ih
  obtain ⟨h1,h2⟩:=h
  by_cases e : p.1 = k
  ·
   rw [if_pos e,if_pos (h1.symm.trans e)]; exact ⟨h1,ry⟩
  ·
   rw [if_neg e,if_neg (fun z => e (h1.trans z))]; exact ⟨h1,h2⟩
theorem KV.put {kvs : List (κ × V)} {vs : List (κ × Value)} (r : KV kvs vs) (k : κ) {y : V} {u : Value} (ry : RelV y u) : KV (putK kvs k y) (stored vs k u):=by
 unfold putK stored
 rw [r.any k]
 by_cases e : (vs.any fun kv => decide (kv.1 = k)) = true
 ·
  rw [if_pos e,if_pos e]; exact r.repl k ry
 ·
  rw [if_neg e,if_neg e]; exact Paired.snoc r ⟨rfl,ry⟩
theorem KV.drop {kvs : List (κ × V)} {vs : List (κ × Value)} (r : KV kvs vs) (k : κ) : KV (dropK kvs k) (without vs k):=by
 unfold KV at r ⊢
 unfold dropK without
 induction r with
 | nil => exact .nil
 | @cons p q ps qs h t ih =>
  obtain ⟨h1,h2⟩:=h
  rw [List.filter_cons,List.filter_cons]
  by_cases e : p.1 = k
  ·
   have a : ¬ decide (p.1 ≠ k) = true:=by simp [e]
   have b : ¬ decide (q.1 ≠ k) = true:=by simp [h1.symm.trans e]
   rw [if_neg a,if_neg b]; exact ih
  ·
   have e' : ¬ q.1 = k:=fun z => e (h1.trans z)
   have a : decide (p.1 ≠ k) = true:=by simp [e]
   have b : decide (q.1 ≠ k) = true:=by simp [e']
   rw [if_pos a,if_pos b]; exact .cons ⟨h1,h2⟩ ih
theorem KV.keys {kvs : List (κ × V)} {vs : List (κ × Value)} (r : KV kvs vs) : kvs.map (·.1) = vs.map (·.1):=by
 unfold KV at r
 induction r with
 | nil => rfl
 | cons h t ih => rw [List.map_cons,List.map_cons,ih,h.1]
theorem KV.length {kvs : List (κ × V)} {vs : List (κ × Value)} (r : KV kvs vs) : kvs.length = vs.length:=Paired.length r
end
theorem kV_is {P : Program} {w : World} {k : Key} {u : Value} (r : RelV (kV k) u) : (mixKind P w).is k u = true:=by
 cases k with
 | inl i => obtain ⟨t,e⟩:=(show ∃ t,u = Value.int i t from r); subst e; exact mixKind_int P w i t
 | inr x => obtain ⟨t,e⟩:=(show ∃ t,u = Value.str x t from r); subst e; exact mixKind_str P w x t
theorem items_are {P : Program} {w : World} : ∀ {ks : List Key} {us : List Value},Vals (ks.map kV) us -> ItemsAre (mixKind P w) ks us
 | [],_,r => by rw [List.map_nil] at r; cases r; exact .nil
 | k :: ks,_,r => by
  rw [List.map_cons] at r
  cases r with
  | cons h t => exact .cons (kV_is h) (items_are t)
abbrev KT (H : Hp) : List (List Key × V) -> List (List Key × Addr × Value) -> Prop:=Paired fun p q => p.1 = q.1 /\ H q.2.1 = some (.tup (p.1.map kV)) /\ RelV p.2 q.2.2
theorem KT.val {H : Hp} {kvs : List (List Key × V)} {xs : List (List Key × Addr × Value)} (r : KT H kvs xs) (k : List Key) : RelO (valV kvs k) ((atKey xs k).map (·.2)):=by
 induction r with
 | nil => exact True.intro
 | @cons p q ps qs h t ih =>
  obtain ⟨h1,_,h2⟩:=h
  by_cases e : p.1 = k
  ·
   have e' : q.1 = k:=h1.symm.trans e
   have b : atKey (q :: qs) k = some q.2:=by simp [atKey,List.find?_cons,e']
   rw [valV_pos e,b]; exact h2
  ·
   have e' : ¬ q.1 = k:=fun z => e (h1.trans z)
   have b : atKey (q :: qs) k = atKey qs k:=by simp [atKey,List.find?_cons,e']
   rw [valV_neg e,b]; exact ih
theorem KT.repl {H : Hp} {kvs : List (List Key × V)} {xs : List (List Key × Addr × Value)} (r : KT H kvs xs) (k : List Key) {y : V} {u : Value} (ry : RelV y u) :
  KT H (kvs.map fun kv => if kv.1 = k then (kv.1,y) else kv) (xs.map (putAt k u)):=by
 induction r with
 | nil => exact .nil
 | @cons p q ps qs h t ih =>
  rw [List.map_cons,List.map_cons]
  refine .cons ?_ ih
  obtain ⟨h1,h2,h3⟩:=h
  unfold putAt
  by_cases e : p.1 = k
  ·
   rw [if_pos e,if_pos (h1.symm.trans e)]; exact ⟨h1,h2,ry⟩
  ·
   rw [if_neg e,if_neg (fun z => e (h1.trans z))]; exact ⟨h1,h2,h3⟩
theorem KT.put {H : Hp} {kvs : List (List Key × V)} {xs : List (List Key × Addr × Value)} (r : KT H kvs xs) (k : List Key) {b : Addr} {y : V} {u : Value} (hb : H b = some (.tup (k.map kV))) (ry : RelV y u) :
  KT H (putK kvs k y) (storedH xs k b u):=by
 have e : (kvs.any fun kv => decide (kv.1 = k)) = (atKey xs k).isSome:=by
  rw [valV_any,(r.val k).isSome_eq,Option.isSome_map]
 unfold putK storedH
 rw [e]
 by_cases q : (atKey xs k).isSome = true
 ·
  rw [if_pos q,if_pos q]; exact r.repl k ry
 ·
  rw [if_neg q,if_neg q]; exact Paired.snoc r ⟨rfl,hb,ry⟩
theorem KT.keeps {H H' : Hp} {kvs : List (List Key × V)} {xs : List (List Key × Addr × Value)} (r : KT H kvs xs) (ht : ∀ b ys,H b = some (.tup ys) -> H' b = some (.tup ys)) : KT H' kvs xs :=
 Paired.mapP r fun _ _ z => ⟨z.1,ht _ _ z.2.1,z.2.2⟩
section
variable {P : Program} {w : World} {H : Hp} {h : Heap} {a : Addr}
theorem rd_of {u : HO} (ok : HOk P w H h) (e : Rd H a u) : ObjOk P w H h a u:=e.ok ok
theorem dk_rd {kvs : List (Key × V)} (ok : HOk P w H h) (e : Rd H a (.dK kvs)) : kvs.length <= sizeLine /\ (a == sysModules) = false /\ ∃ vs,KV kvs vs /\ h.DictOf (mixKind P w) a vs :=
 show ObjOk P w H h a (.dK kvs) from rd_of ok e
theorem dk_of {kvs : List (Key × V)} (ok : HOk P w H h) (e : H a = some (.dK kvs)) : kvs.length <= sizeLine /\ (a == sysModules) = false /\ ∃ vs,KV kvs vs /\ h.DictOf (mixKind P w) a vs:=dk_rd ok (.inl e)
theorem key_of {ks : List Key} (ok : HOk P w H h) (e : H a = some (.tup (ks.map kV))) : (tupleKind (mixKind P w)).is h ks a:=by
 obtain ⟨_,its,r,o,h1,h2,n,h3,_⟩:=(show ObjOk P w H h a (.tup (ks.map kV)) from ok a _ e)
 exact ⟨o,its.toArray,n,h1,h2,h3,by simpa using items_are r⟩
theorem dt_rd {kvs : List (List Key × V)} (ok : HOk P w H h) (e : Rd H a (.dT kvs)) : kvs.length <= sizeLine /\ (a == sysModules) = false /\
  ∃ xs,KT H kvs xs /\ h.DictOfH (tupleKind (mixKind P w)) a xs:=by
 obtain ⟨z,y,xs,r,o,es,ep,h1,h2,h3,h4,h5⟩:=(show ObjOk P w H h a (.dT kvs) from rd_of ok e)
 refine ⟨z,y,xs,r,o,es,ep,h1,h2,h3,h4,fun x hx => ?_,h5⟩
 have all : ∀ {l : List (List Key × V)} {m : List (List Key × Addr × Value)},KT H l m -> ∀ x ∈ m,(tupleKind (mixKind P w)).is h x.1 x.2.1:=by
  intro l m q
  induction q with
  | nil => intro x hx; exact nomatch hx
  | @cons p q ps qs hq t ih =>
   intro x hx
   rcases List.mem_cons.mp hx with e | hx
   ·
    subst e
    exact key_of ok (by rw [<- hq.1]; exact hq.2.1)
   ·
    exact ih x hx
 exact all r x hx
theorem dt_of {kvs : List (List Key × V)} (ok : HOk P w H h) (e : H a = some (.dT kvs)) : kvs.length <= sizeLine /\ (a == sysModules) = false /\
  ∃ xs,KT H kvs xs /\ h.DictOfH (tupleKind (mixKind P w)) a xs:=dt_rd ok (.inl e)
end
def DGet (H : Hp) (a : Addr) (y : V) (r : Option V) : Prop :=
 (∃ kvs k,Rd H a (.dK kvs) /\ y = kV k /\ r = valV kvs k) \/ ∃ kvs k b,Rd H a (.dT kvs) /\ y = .ref b /\ H b = some (.tup (k.map kV)) /\ r = valV kvs k
def DPut (H : Hp) (a : Addr) (y v : V) (H' : Hp) : Prop :=
 (∃ kvs k,H a = some (.dK kvs) /\ y = kV k /\ kvs.length < sizeLine /\ H' = upd H a (.dK (putK kvs k v))) \/
 ∃ kvs k b,H a = some (.dT kvs) /\ y = .ref b /\ H b = some (.tup (k.map kV)) /\ kvs.length < sizeLine /\ H' = upd H a (.dT (putK kvs k v))
theorem DGet.k {H : Hp} {a : Addr} {kvs : List (Key × V)} {k : Key} (e : H a = some (.dK kvs)) : DGet H a (kV k) (valV kvs k):=.inl ⟨kvs,k,.inl e,rfl,rfl⟩
theorem DGet.t {H : Hp} {a b : Addr} {kvs : List (List Key × V)} {k : List Key} (e : H a = some (.dT kvs)) (eb : H b = some (.tup (k.map kV))) : DGet H a (.ref b) (valV kvs k):=.inr ⟨kvs,k,b,.inl e,rfl,eb,rfl⟩
theorem DPut.k {H : Hp} {a : Addr} {kvs : List (Key × V)} {k : Key} {v : V} (e : H a = some (.dK kvs)) (hl : kvs.length < sizeLine) : DPut H a (kV k) v (upd H a (.dK (putK kvs k v))):=.inl ⟨kvs,k,e,rfl,hl,rfl⟩
theorem DPut.t {H : Hp} {a b : Addr} {kvs : List (List Key × V)} {k : List Key} {v : V} (e : H a = some (.dT kvs)) (eb : H b = some (.tup (k.map kV))) (hl : kvs.length < sizeLine) :
  DPut H a (.ref b) v (upd H a (.dT (putK kvs k v))):=.inr ⟨kvs,k,b,e,rfl,eb,hl,rfl⟩
section
variable {X : Cx} {pins : List (Addr × Obj)} {σ : St} {H : Hp} {s : Shared} {a : Addr} {y v : V} {u r : Value} {o : Option V} {A : Around} {E : Value -> Shared -> Prop}
theorem Inv.big (I : Inv X pins σ H s) : sysModules < s.heap.objs.size:=by
 have h : mainGlobals < s.heap.objs.size:=(I.mod.glob.keeps I.bk).lt
 exact Nat.lt_trans (by decide) h
theorem d_getItem {Q : Value -> Shared -> Prop} (hu : A.units + 1 < cLine) (I : Inv X pins σ H s) (g : DGet H a y (some v)) (ry : RelV y u) (h : ∀ w' s',Inv X pins σ H s' -> RelV v w' -> Q w' s') :
  wpAny (model X.prog X.w) A (getItem (.ref a) u) Q E s:=by
 rcases g with ⟨kvs,k,e,ey,l⟩ | ⟨kvs,k,b,e,ey,eb,l⟩
 ·
  subst ey
  obtain ⟨z,hd,vs,rel,dd⟩:=dk_rd I.hok e
  obtain ⟨w',hw,rw'⟩:=RelO.some_of (v:=v) (o:=valueAt vs k) (by rw [l]; exact rel.val k)
  exact wpAny_getItem_of (kV_is ry) dd.mapOf hw (h w' _ (I.tok _) rw')
 ·
  subst ey
  cases (show u = Value.ref b from ry)
  obtain ⟨z,hd,xs,rel,dd⟩:=dt_rd I.hok e
  obtain ⟨w',hw,rw'⟩:=RelO.some_of (v:=v) (o:=(atKey xs k).map (·.2)) (by rw [l]; exact rel.val k)
  obtain ⟨p,hp,hp2⟩:=Option.map_eq_some_iff.mp hw
  refine wpAny_getItem_heap (tupleKind_room_in1 hu) (key_of I.hok eb) dd hp ?_
  rw [hp2]
  exact h w' _ (I.tok _) rw'
theorem d_write {h' : Heap} {t' : Nat} {ob : HO} (I : Inv X pins σ H s) (mu : Mut (H a)) (hs : Heap.SameBut a s.heap h') (he : ∃ q,h'.get? a = some q) (new : ObjOk X.prog X.w (upd H a ob) h' a ob) :
  Inv X pins σ (upd H a ob) { s with heap:=h',toks:=t' } :=
 I.write (x:=a) (e:=a) mu (.inl rfl) (fun b q hb z => (hs.2 b hb).trans z) he new
theorem dk_new {P : Program} {w : World} {H' : Hp} {h' : Heap} {kvs : List (Key × V)} {vs : List (Key × Value)} (z : kvs.length <= sizeLine) (hd : (a == sysModules) = false) (rel : KV kvs vs) (dd : h'.DictOf (mixKind P w) a vs) :
  ObjOk P w H' h' a (.dK kvs):=⟨z,hd,vs,rel,dd⟩
theorem d_setItem {H' : Hp} {Q : Unit -> Shared -> Prop} (hu : A.units + 1 < cLine) (I : Inv X pins σ H s) (g : DPut H a y v H') (ry : RelV y u) (rv : RelV v r) (h : ∀ s',Inv X pins σ H' s' -> Q () s') :
  wpAny (model X.prog X.w) A (setItem (.ref a) u r) Q E s:=by
 rcases g with ⟨kvs,k,e,ey,l,eH⟩ | ⟨kvs,k,b,e,ey,eb,l,eH⟩
 ·
  subst ey eH
  obtain ⟨z,hd,vs,rel,dd⟩:=dk_of I.hok e
  have hz : vs.length <= sizeLine:=by rw [<- rel.length]; exact z
  have hl : (putK kvs k v).length <= sizeLine:=by have:=length_putK kvs k v; omega
  refine wpAny_setItem_pairs (hsz:=hz) (kV_is ry) dd fun h' dd' hs => h _ ?_
  have he : ∃ q,h'.get? a = some q:=let ⟨q,_,_,hq,_⟩:=dd'; ⟨q,hq⟩
  exact d_write I (by rw [e]; exact True.intro) hs he (dk_new hl hd (rel.put k rv) dd')
 ·
  subst ey eH
  cases (show u = Value.ref b from ry)
  obtain ⟨z,hd,xs,rel,dd⟩:=dt_of I.hok e
  have hz : xs.length <= sizeLine:=by rw [<- Paired.length rel]; exact z
  have hl : (putK kvs k v).length <= sizeLine:=by have:=length_putK kvs k v; omega
  refine wpAny_setItem_heap (hsz:=hz) (tupleKind_room_in1 hu) (key_of I.hok eb) dd fun h' dd' hs => h _ ?_
  obtain ⟨q,es,ep,hq,h2,h3,h4,_,h5⟩:=dd'
  refine d_write I (by rw [e]; exact True.intro) hs ⟨q,hq⟩ ⟨hl,hd,_,(rel.put k eb rv).keeps fun c ys ec => ?_,q,es,ep,hq,h2,h3,h4,h5⟩
  rw [upd_ne (ne_of ec e (fun z => nomatch z))]
  exact ec
end
section
variable {X : Cx} {pins : List (Addr × Obj)} {σ : St} {H : Hp} {s : Shared} {a : Addr} {kvs : List (Key × V)} {k : Key} {u : Value} {A : Around} {E : Value -> Shared -> Prop}
end
def NoSl (i : Expr) : Prop:=∀ ov iv,subscripted i false ov iv = operate [ov,iv] (getItem ov iv)
theorem subD_of {prog : Program} {w : World} {A : Around} {E : Value -> Shared -> Prop} {s : Shared} {env : Env} {value slice : Expr} {pos : Pos} {T id : String} {Q : Value -> Shared -> Prop}
  (hl : typeLookup (.type T) "__getitem__" = pure (some (.builtin id))) (hs : NoSl slice)
  (h : wpAny (model prog w) A (eval value env) (fun o s₁ => wpAny (model prog w) A (eval slice env) (fun i s₂ => s₂.TypeIs o T /\ wpAny (model prog w) A (getItem o i) Q E s₂) E s₁) E s) :
  wpAny (model prog w) A (eval (.Subscript value slice pos) env) Q E s:=by
 refine Subscript_ (wpAny_mono h (fun o s₁ h₁ => wpAny_mono h₁ (fun i s₂ h₂ => ?_) fun _ _ x => x) fun _ _ x => x)
 obtain ⟨hT,h₂⟩:=h₂
 unfold subscriptTail
 refine wpAny_bind ?_
 rw [getitemInPython_of_ne hT.not_modules]
 refine wpAny_bind (wpAny_specialOf hT hl ?_)
 have fin : wpAny (model prog w) A (subscripted slice false o i) (fun r s₃ => wpAny (model prog w) A (letTemporaryGo value o r >>= fun _ => pure r) Q E s₃) E s₂:=by
  rw [hs o i]
  exact wpAny_operating (wpAny_mono h₂ (fun r s₃ h₃ => wpAny_bind (wpAny_letTemporaryGo (wpAny_pure h₃))) fun _ _ x => x)
 first
  | exact wpAny_pure (wpAny_bind fin)
  | exact wpAny_bind (wpAny_pure (wpAny_bind fin))
  | exact wpAny_bind fin
theorem dict_typeIs {X : Cx} {pins : List (Addr × Obj)} {σ : St} {H : Hp} {s : Shared} {a : Addr} {y : V} {o : Option V} (I : Inv X pins σ H s) (g : DGet H a y o) : s.TypeIs (.ref a) "dict":=by
 rcases g with ⟨kvs,k,e,_,_⟩ | ⟨kvs,k,b,e,_,_,_⟩
 ·
  obtain ⟨_,_,vs,_,dd⟩:=dk_rd I.hok e
  exact dd.typeIs
 ·
  obtain ⟨_,_,xs,_,dd⟩:=dt_rd I.hok e
  exact dd.typeIs
def tDGet (td ty : TE) : TE:=fun σ H Q => td σ H fun x H1 => ty σ H1 fun y H2 => ∃ a v,x = .ref a /\ DGet H2 a y (some v) /\ Q v H2
def sDPut (td ty tv : TE) : TS:=fun D σ H => tv σ H fun v H1 => td σ H1 fun x H2 => ty σ H2 fun y H3 => ∃ a H4,x = .ref a /\ DPut H3 a y v H4 /\ D.nx σ H4
section
variable {X : Cx} {o i e value : Expr} {pos pos' tpos : Pos} {td ty tv : TE}
theorem pe_dget (hu : X.A.units + 1 < cLine) (ho : PE X o td) (hi : PE X i ty) (hs : NoSl i) : PE X (.Subscript o i pos) (tDGet td ty):=by
 intro pins s σ H Q I h
 refine subD_of PySem.F.slot_dict_getitem.lookup hs (thn (ho pins s σ H _ I h) fun u s1 ⟨x,H1,I1,rx,q1⟩ => thn (hi pins s1 σ H1 _ I1 q1) fun iv s2 ⟨y,H2,I2,ry,a,v,ex,g,q2⟩ => ?_)
 subst ex
 obtain rfl : u = Value.ref a:=rx
 exact ⟨dict_typeIs I2 g,d_getItem hu I2 g ry fun w' s3 I3 rw' => ⟨v,H2,I3,rw',q2⟩⟩
theorem ps_dput (hu : X.A.units + 1 < cLine) (ho : PE X o td) (hi : PE X i ty) (hv : PE X value tv) (hs : swapsWith value (some (.Subscript o i pos')) pos.line X.env = pure false) :
  PS X (.Assign [.Subscript o i pos'] value pos) (sDPut td ty tv):=by
 intro pins s σ H D I h
 refine wpAny_Assign_Subscript (thn (hv pins s σ H _ I h) fun r s1 ⟨v,H1,I1,rv,q1⟩ => thn (ho pins s1 σ H1 _ I1 q1) fun u s2 ⟨x,H2,I2,rx,q2⟩ => thn (hi pins s2 σ H2 _ I2 q2) fun iv s3 ⟨y,H3,I3,ry,a,H4,ex,g,q3⟩ => ?_) hs
 subst ex
 obtain rfl : u = Value.ref a:=rx
 exact d_setItem hu I3 g ry rv fun s4 I4 => ⟨σ,H4,I4,q3⟩
end
theorem dk_empty {P : Program} {w : World} {H : Hp} (h : Heap) (hb : sysModules < h.objs.size) : ObjOk P w H (h.push { cls:=.type "dict",data:=.dict #[] }) h.objs.size (.dK []) :=
 ⟨Nat.zero_le _,beq_eq_false_iff_ne.mpr (Ne.symm (Nat.ne_of_lt hb)),[],.nil,Heap.DictOf.new h⟩
theorem dt_empty {P : Program} {w : World} {H : Hp} (h : Heap) (hb : sysModules < h.objs.size) : ObjOk P w H (h.push { cls:=.type "dict",data:=.dict #[] }) h.objs.size (.dT []) :=
 ⟨Nat.zero_le _,beq_eq_false_iff_ne.mpr (Ne.symm (Nat.ne_of_lt hb)),[],.nil,_,#[],0,Heap.get?_push_size _ rfl,⟨rfl,rfl,rfl⟩,rfl,rfl,List.nodup_nil⟩
def tDNewT : TE:=fun _ H Q => ∀ p,H p = none -> Q (.ref p) (upd H p (.dT []))
section
variable {X : Cx} {pos : Pos}
theorem pe_dnewT : PE X (.Dict [] [] pos) tDNewT:=fun pins s σ H Q I h =>
 wpAny_Dict_empty ⟨.ref s.heap.objs.size,_,I.laid (a:=s.heap.objs.size) (o:=.dT []) (t':=s.toks) (fun _ _ q => Heap.get?_push_of_some _ q) (Nat.le_refl _) (dt_empty s.heap I.big),rfl,h _ (I.hok.fresh (Nat.le_refl _))⟩
end
def tPairs : List (TE × TE) -> St -> Hp -> (List (V × V) -> Hp -> Prop) -> Prop
 | [],_,H,Q => Q [] H
 | (tk,tv) :: r,σ,H,Q => tk σ H fun x H1 => tv σ H1 fun y H2 => tPairs r σ H2 fun ps H3 => Q ((x,y) :: ps) H3
abbrev VV : List (V × V) -> List (Value × Value) -> Prop:=Paired fun p q => RelV p.1 q.1 /\ RelV p.2 q.2
def PPs (X : Cx) (pos : Pos) (keys : List (Option Expr)) (values : List Expr) (trs : List (TE × TE)) : Prop :=
 ∀ (pins : List (Addr × Obj)) (s : Shared) (σ : St) (H : Hp) (Q : List (V × V) -> Hp -> Prop),Inv X pins σ H s -> tPairs trs σ H Q ->
  wpAny (model X.prog X.w) X.A (evalPairs (pairTrees keys values X.env pos)) (fun vs s' => ∃ ps H',Inv X pins σ H' s' /\ VV ps vs /\ Q ps H') X.xe s
theorem pps_nil {X : Cx} {pos : Pos} : PPs X pos [] [] []:=fun pins s σ H Q I h => pairTrees_nil_walk ⟨[],H,I,.nil,h⟩
theorem pps_cons {X : Cx} {pos : Pos} {k v : Expr} {ks : List (Option Expr)} {vs : List Expr} {tk tv : TE} {trs : List (TE × TE)} (hk : PE X k tk) (hv : PE X v tv) (hr : PPs X pos ks vs trs) :
  PPs X pos (some k :: ks) (v :: vs) ((tk,tv) :: trs):=fun pins s σ H Q I h =>
 pairTrees_cons_walk (thn (hk pins s σ H _ I h) fun u s1 ⟨x,H1,I1,rx,q1⟩ => thn (hv pins s1 σ H1 _ I1 q1) fun w2 s2 ⟨y,H2,I2,ry,q2⟩ =>
  thn (hr pins s2 σ H2 _ I2 q2) fun ws s3 ⟨ps,H3,I3,rel,q3⟩ => ⟨(x,y) :: ps,H3,I3,.cons ⟨rx,ry⟩ rel,q3⟩)
noncomputable def mergeK (kvs more : List (Key × V)) : List (Key × V):=more.foldl (fun acc kv => putK acc kv.1 kv.2) kvs
theorem KV.merge : ∀ {more : List (Key × V)} {rs : List (Key × Value)} {kvs : List (Key × V)} {vs : List (Key × Value)},KV more rs -> KV kvs vs -> KV (mergeK kvs more) (merged vs rs):=by
 intro more rs kvs vs r
 unfold KV at r
 induction r generalizing kvs vs with
 | nil => intro q; exact q
 | @cons p q ps qs h t ih =>
  intro r0
  have e : KV (putK kvs p.1 p.2) (stored vs q.1 q.2):=by
   have:=r0.put p.1 h.2
   rw [<- h.1]; exact this
  exact ih e
theorem length_mergeK : ∀ (more kvs : List (Key × V)),(mergeK kvs more).length <= kvs.length + more.length
 | [],kvs => by show kvs.length <= kvs.length + 0; omega
 | p :: r,kvs => by
  have h1:=length_mergeK r (putK kvs p.1 p.2)
  have h2:=length_putK kvs p.1 p.2
  show (mergeK (putK kvs p.1 p.2) r).length <= _
  rw [List.length_cons]; omega
theorem carries_of {P : Program} {w : World} : ∀ {kvs : List (Key × V)} {ws : List (Value × Value)},VV (kvs.map fun kv => (kV kv.1,kv.2)) ws -> ∃ rs,Carries (mixKind P w) ws rs /\ KV kvs rs
 | [],_,r => by rw [List.map_nil] at r; cases r; exact ⟨[],True.intro,.nil⟩
 | p :: kvs,_,r => by
  rw [List.map_cons] at r
  cases r with
  | @cons a b as bs h t =>
   obtain ⟨rs,c,q⟩:=carries_of (P:=P) (w:=w) t
   obtain ⟨b1,b2⟩:=b
   exact ⟨(p.1,b2) :: rs,⟨kV_is h.1,rfl,c⟩,.cons ⟨rfl,h.2⟩ q⟩
def tDisp (trs : List (TE × TE)) : TE:=fun σ H Q => ∀ p,H p = none -> tPairs trs σ (upd H p (.dK [])) fun ps H2 => H2 p = some (.dK []) /\ ∃ kvs : List (Key × V),ps = kvs.map (fun kv => (kV kv.1,kv.2)) /\ kvs.length <= 15 /\ Q (.ref p) (upd H2 p (.dK (mergeK [] kvs)))
theorem pe_disp {X : Cx} {pos : Pos} {keys : List (Option Expr)} {values : List Expr} {trs : List (TE × TE)} (h : PPs X pos keys values trs) (hall : keys.all (·.isSome) = true) (hl : keys.length = values.length) (h0 : keys ≠ [])
  (h15 : keys.length <= 15) : PE X (.Dict keys values pos) (tDisp trs):=by
 intro pins s σ H Q I q
 have hn:=I.hok.fresh (Nat.le_refl s.heap.objs.size)
 have I1:=I.laid (a:=s.heap.objs.size) (o:=.dK []) (h':=s.heap.push { cls:=.type "dict",data:=.dict #[] }) (t':=s.toks) (fun _ _ q => Heap.get?_push_of_some _ q) (Nat.le_refl _) (dk_empty s.heap I.big)
 refine wpAny_Dict_walk (knd:=mixKind X.prog X.w) hall hl h0 h15 (thn (h pins _ σ _ _ I1 (q _ hn)) fun ws s2 ⟨ps,H2,I2,rel,e,kvs,ep,lk,q2⟩ => ?_)
 subst ep
 obtain ⟨rs,c,rk⟩:=carries_of (P:=X.prog) (w:=X.w) rel
 obtain ⟨z,hd,vs0,r0,dd⟩:=dk_of I2.hok e
 cases r0
 refine ⟨rs,c,dd,fun h' dd' hs => ⟨.ref s.heap.objs.size,_,?_,rfl,q2⟩⟩
 have hz : (mergeK [] kvs).length <= sizeLine:=by
  have h1:=length_mergeK kvs []
  rw [List.length_nil] at h1
  rw [sizeLine_eq]; omega
 have he : ∃ q,h'.get? s.heap.objs.size = some q:=let ⟨q,_,_,hq,_⟩:=dd'; ⟨q,hq⟩
 exact d_write I2 (by rw [e]; exact True.intro) hs he (dk_new hz hd (rk.merge .nil) dd')
section
variable {X : Cx} {pins : List (Addr × Obj)} {σ : St} {H : Hp} {s : Shared} {a : Addr} {y d : V} {u r : Value} {o : Option V} {A : Around} {E : Value -> Shared -> Prop}
end
section
variable {X : Cx} {o e f : Expr} {apos cpos : Pos} {td ty tx : TE}
end
section
variable {X : Cx} {pins : List (Addr × Obj)} {σ : St} {H : Hp} {s : Shared} {a : Addr} {kvs : List (Key × V)} {A : Around} {E : Value -> Shared -> Prop}
end
section
variable {X : Cx} {pins : List (Addr × Obj)} {σ : St} {H : Hp} {s : Shared} {a : Addr} {y : V} {u : Value} {A : Around} {E : Value -> Shared -> Prop}
end
end L2
namespace Att
open PySem PySem.W PySem.Calls PyProof.Rows
theorem ints_of_wellAll {P : Params} {h : Heap} : ∀ (ns : List Int) (vs : List Value),WellAll P h vs (ns.map WData.int) -> IntsAre vs ns:=by
 intro ns
 induction ns with
 | nil =>
  intro vs w
  rw [List.map_nil] at w
  cases w
  exact .nil
 | cons n ns ih =>
  intro vs w
  rw [List.map_cons] at w
  cases w with
  | cons a b =>
   cases a
   exact .cons _ _ (ih _ b)
theorem script_of {l : OpenLaw} {n : Nat} (hn : l.most = some n) {P : Params} {h : Heap} {args : List WData} {vals : List Value}
  (hpre : l.row.toRowW.claim.pre args = true) (hwl : WellAll P h vals args) :
  ∃ a vs ns,vals = [Value.ref a] /\ args = [WData.list (ns.map WData.int)] /\ h.get? a = some { cls:=.type "list",data:=.seq vs.toArray } /\ IntsAre vs ns /\ ns.length <= n:=by
 have hsh : WShape.hasAll [] args [.list .int] = true:=(pre_splitW hpre).1
 have hc : l.pre.holds [] { args:=args } = true:=(pre_splitW hpre).2
 obtain ⟨d,r,rfl,h1,h2⟩:=hasAllW_cons hsh
 obtain rfl:=hasAllW_nil h2
 obtain ⟨xs,rfl,h3⟩:=hasW_list h1
 obtain ⟨ns,rfl⟩:=items_int h3
 have hlen : ns.length <= n:=by
  unfold OpenLaw.pre at hc
  have h4 : (WTm.not (.lt (.lit (.int (n : Int))) (.len (.arg 0)))).holds [] { args:=[.list (ns.map .int)] } = true:=by
   have h4:=(holds_andW hc).1
   rw [hn] at h4
   exact h4
  have h5:=condW_of h4 (w_not (w_lt w_lit (w_len_list (w_arg rfl))))
  rw [List.length_map] at h5
  refine Nat.le_of_not_lt fun q => ?_
  have q' : (n : Int) < ((ns.length : Nat) : Int):=by omega
  first
   | (rw [decide_eq_true q'] at h5; exact absurd h5 (by decide))
   | (simp at h5; omega)
 cases hwl with
 | cons w1 w2 =>
  cases w2
  cases w1 with
  | list ho hall => exact ⟨_,_,ns,rfl,rfl,ho,ints_of_wellAll ns _ hall,hlen⟩
theorem post_true (l : OpenLaw) (args : List WData) : l.row.toRowW.claim.post args (.bool true) args = true :=
 postW_of (r:=l.row.toRowW) (X:=(true == true))
  (show WShape.has [] (.bool true) .bool = true by first | rfl | decide | simp [WShape.has,WShape.arms,WShape.armsAll])
  (show (WTm.eq .res (.lit (.bool true))).value [] { args:=args,res:=some (.bool true),after:=args } = some (.bool (true == true)) from w_eq_bool (w_res rfl) w_lit) rfl
theorem attach_call {l : OpenLaw} {n : Nat} {q : Program} {loose : List Str} {XP : (Str -> Option Value) -> Heap -> Prop} {YP : World -> Heap -> Prop} {d : DefRec}
  (hn : l.most = some n) (hdf : d.params.defaults = [])
  (call : ∀ (w : World) (s₀ s₁ : Shared) (mg mb : Str -> Option Value) (fa : Addr) (o : Obj) (pm cd doc : Value) (a : Addr) (vs : List Value) (ns : List Int),
   Ground q loose [] XP w s₀ mg mb s₁.heap -> YP w s₁.heap ->
   s₁.heap.get? fa = some o -> o.data = .func (docDef d.name d.params d.body d.scope pm cd doc) -> s₁.heap.CodeRec cd d.name -> mg d.name = some (.ref fa) ->
   s₁.heap.get? a = some { cls:=.type "list",data:=.seq vs.toArray } -> IntsAre vs ns -> ns.length <= n -> s₁.gens = #[] ->
   codeAny (model l.prog w) callerA (.call (.ref fa) ⟨[.ref a],[]⟩) (fun r s' => r = .ok (.ret (.bool true)) /\ OldK s₁.heap s'.heap /\ s'.os = s₁.os /\ AllBare s'.gens) s₁) :
  WalkO q loose XP YP l.row.toRowW d [] (fun f vs => PySem.call f vs):=by
 intro w s₀ s₁ mg mb G Y fa o pm cd doc dV kV ho hd hcd hD hmg hg args vals as hpre hlay hrd hwl hlo
 obtain rfl : dV = .none:=Dflts.none hD hdf
 obtain rfl : kV = .none:=Dflts.noKw hD
 obtain ⟨a,vs,ns,rfl,rfl,hobj,hints,hlen⟩:=script_of hn hpre hwl
 refine enter_call (codeAny_mono (call w s₀ s₁ mg mb fa o pm cd doc a vs ns G Y ho (fd_plain hd) hcd hmg hobj hints hlen hg) fun r s' hq => ?_)
 obtain ⟨rfl,h2,h3,h4⟩:=hq
 exact ⟨.inl ⟨.bool true,.bool true,[],rfl,fun _ => rfl,.bool true,post_true l _,fun _ => ⟨List.Pairwise.nil,fun _ hm => (nomatch hm)⟩⟩,h2,h3,h4⟩
section
variable {prog : Program} {w : World} {A : Around} {E : Value -> Shared -> Prop} {s : Shared} {K : Frag}
noncomputable def ledger (h : Heap) (L d : Addr) : List (Addr × Obj):=(List.range h.objs.size).filterMap fun a => if a = L \/ a = d then none else (h.get? a).map fun o => (a,o)
end
end Att
namespace L2
open PySem PySem.Spec PyProof.Rows
theorem vals_ints : ∀ {vs : List Value} {ns : List Int},IntsAre vs ns -> Vals (ns.map V.int) vs
 | _,_,.nil => .nil
 | _,_,.cons n t h => .cons ⟨t,rfl⟩ (vals_ints h)
def Only (H : Hp) : Prop:=∀ b,H b = none \/ ∃ o xs,H b = some (.frz o (.lst xs))
theorem law_call {P : Program} {w : World} {K : PySem.W.Frag} {mg mb : Str -> Option Value} {CX : CXT} {k : Nat} {fa a : Addr} {fd : FuncData} {x : Str} {sp : Sp} {s₁ : Shared} {vs : List Value} {ns : List Int}
  (KX : K.In s₁.heap) (hns : s₁.heap.Ns mainGlobals mg) (hb : s₁.heap.Ns builtinsNs mb) (hbb : ∀ x : Str,x ≠ "__name__" -> mb x = bootBuiltins x) (hlim : s₁.heap.NoLimit) (hg : s₁.gens = #[])
  (ha : s₁.heap.get? a = some { cls:=.type "list",data:=.seq vs.toArray }) (hi : IntsAre vs ns) (hl : ns.length <= sizeLine) (hr : Room k callerA)
  (F : ∀ base : Heap,K.In base -> base.Ns mainGlobals mg -> FnOk P w K mg base CX k fa fd [x] sp) (hbind : ∀ (s : Shared) (u : Value),BindsTo s fd ⟨[u],[]⟩ [(x,u)])
  (hsp : ∀ H : Hp,Only H -> SqL K H a (ns.map V.int) -> sp [.ref a] H (fun v _ => v = .bl true) fun _ _ _ => False)
  (hCX : ∀ H e s',CX [] H s₁ (fun _ _ _ => False) e s' -> False) :
  codeAny (model P w) callerA (.call (.ref fa) ⟨[.ref a],[]⟩) (fun r s' => r = .ok (.ret (.bool true)) /\ OldK s₁.heap s'.heap /\ s'.os = s₁.os /\ AllBare s'.gens) s₁:=by
 have rv:=vals_ints hi
 have lenV:=hi.length
 -- from an abstract heap in which nothing but the script may be tracked
 have core : ∀ H : Hp,Only H -> SqL K H a (ns.map V.int) -> HOk P w H s₁.heap -> (∀ b,H b ≠ none -> b = a) -> (H a ≠ none -> K.lookup a = none) ->
   codeAny (model P w) callerA (.call (.ref fa) ⟨[.ref a],[]⟩) (fun r s' => r = .ok (.ret (.bool true)) /\ OldK s₁.heap s'.heap /\ s'.os = s₁.os /\ AllBare s'.gens) s₁:=by
  intro H hO hS hok hA hK
  have base_of : ∀ {b : Addr} {o : Obj},s₁.heap.get? b = some o -> H b = none -> (hidT s₁.heap H).get? b = some o:=fun e n => hidT_get e n
  have noA : ∀ {b : Addr} {o : Obj} {es : Array DictEntry} {ep : Nat},s₁.heap.get? b = some o -> o.data = .dict es ep -> H b = none:=fun {b o es ep} e d => by
   cases q : H b with
   | none => rfl
   | some u =>
    have e' : b = a:=hA b (by rw [q]; simp)
    subst e'
    rw [ha] at e; cases e
    have d' : Data.seq vs.toArray _ = Data.dict es ep:=d
    cases d'
  have nsK : ∀ {b : Addr} {m : Str -> Option Value},s₁.heap.Ns b m -> (hidT s₁.heap H).Ns b m:=fun {b m} ⟨o,es,ep,e,d,r⟩ => ⟨o,es,ep,base_of e (noA e d),d,r⟩
  have hKb : K.In (hidT s₁.heap H):=fun b o e => base_of (KX b o e) (by
   cases q : H b with
   | none => rfl
   | some u =>
    have e' : b = a:=hA b (by rw [q]; simp)
    subst e'
    rw [hK (by rw [q]; simp)] at e; cases e)
  have hM : Mod K mg (hidT s₁.heap H):=⟨hKb,nsK hns,⟨mb,nsK hb,hbb⟩,let ⟨mc,h1,h2⟩:=hlim; ⟨mc,nsK h1,h2⟩⟩
  have e0 : Env0 P w K mg (hidT s₁.heap H) callerA [] s₁ H:=⟨rfl,hM,fun b o e => of_hidT e,Nat.le_of_eq (hidT_size _ _),trivial,fun b hb => absurd (show b ∈ ([] : List Addr) from hb) (by simp),hok,.of_eq hg⟩
  refine codeAny_mono ((F _ hKb (nsK hns)).run callerA [] s₁ H ⟨[.ref a],[]⟩ [.ref a] [.ref a] _ _ hr e0 (hbind s₁ (.ref a)) (.cons rfl .nil) (hsp H hO hS)) fun r s' h => ?_
  cases r with
  | error e => exact (hCX H e s' h).elim
  | ok fl =>
   cases fl with
   | next => exact False.elim h
   | brk => exact False.elim h
   | cont => exact False.elim h
   | ret u =>
    obtain ⟨v,H',os,bare,un,hok',r',q⟩:=h
    have q' : v = .bl true:=q
    subst q'
    obtain rfl : u = Value.bool true:=r'
    refine ⟨rfl,OldK.of_keep fun b o e => ?_,os,bare⟩
    cases q : H b with
    | none => exact un.keep b o e q (by intro z; exact absurd (show b ∈ ([] : List Addr) from z) (by simp)) (by simp)
    | some u =>
     rcases hO b with z | ⟨ob,xs,z⟩
     ·
      rw [q] at z; cases z
     ·
      have z2:=un.frzs b ob _ z
      obtain ⟨e1,_⟩:=hok b _ z
      obtain ⟨e2,_⟩:=hok' b _ z2
      rw [e] at e1; cases e1
      exact e2
 cases hk : K.lookup a with
 | some o =>
  -- the script is one of the module's own objects
  have e:=KX a o hk
  rw [ha] at e
  cases e
  refine core (fun _ => none) (fun _ => .inl rfl) (.inr ⟨_,vs.toArray,_,hk,rfl,rfl,rfl,by rw [List.size_toArray,lenV]; exact hl,by simpa using rv⟩) (fun b u z => by have z' : (none : Option HO) = some u:=z; cases z') (fun b z => absurd rfl z) fun z => absurd rfl z
 | none =>
  refine core (fun b => if b = a then some (.frz { cls:=.type "list",data:=.seq vs.toArray } (.lst (ns.map V.int))) else none) (fun b => ?_) (.inl (.inr ⟨{ cls:=.type "list",data:=.seq vs.toArray },if_pos rfl⟩)) (fun b u z => ?_) (fun b z => ?_) fun _ => hk
  ·
   by_cases hb : b = a
   ·
    exact .inr ⟨_,_,if_pos hb⟩
   ·
    exact .inl (if_neg hb)
  ·
   by_cases hb : b = a
   ·
    have z':=(if_pos hb).symm.trans z
    cases z'
    subst hb
    exact ⟨ha,by rw [List.length_map]; exact hl,vs,_,rv,ha⟩
   ·
    have z':=(if_neg hb).symm.trans z
    cases z'
  ·
   by_cases hb : b = a
   ·
    exact hb
   ·
    exact absurd (if_neg hb) z
end L2
namespace L2
open PySem PySem.Spec PyProof.Rows
noncomputable abbrev KOf {K : PySem.W.Frag} {h : Heap} (_ : K.In h) : PySem.W.Frag:=K
theorem walk_of {l : PySem.W.OpenLaw} {n k : Nat} {q : Program} {loose : List Str} {XP : (Str -> Option Value) -> Heap -> Prop} {YP : World -> Heap -> Prop} {d : DefRec} {K : Params -> PySem.W.Frag} {CX : World -> CXT} {sp : World -> Sp} {x : Str}
  (hn : l.most = some n) (hn2 : n <= sizeLine) (hdf : d.params.defaults = []) (hr : Room k callerA)
  (hY : ∀ (w : World) (h : Heap),YP w h -> (K w.params).In h)
  (F : ∀ (w : World) (mg : Str -> Option Value) (fa : Addr) (h : Heap),(K w.params).In h -> h.Ns mainGlobals mg -> mg d.name = some (.ref fa) ->
   ∃ fd : FuncData,(∀ (s : Shared) (u : Value),BindsTo s fd ⟨[u],[]⟩ [(x,u)]) /\
    ∀ base : Heap,(K w.params).In base -> base.Ns mainGlobals mg -> FnOk l.prog w (K w.params) mg base (CX w) k fa fd [x] (sp w))
  (hsp : ∀ (w : World) (H : Hp) (a : Addr) (ns : List Int),ns.length <= n -> Only H -> SqL (K w.params) H a (ns.map V.int) -> sp w [.ref a] H (fun v _ => v = .bl true) fun _ _ _ => False)
  (hCX : ∀ (w : World) (H : Hp) (s : Shared) (e : Value) (s' : Shared),CX w [] H s (fun _ _ _ => False) e s' -> False) :
  PySem.W.WalkO q loose XP YP l.row.toRowW d [] (fun f vs => PySem.call f vs):=by
 refine Att.attach_call hn hdf fun w s₀ s₁ mg mb fa o pm cd doc a vs ns G Y ho hd hcd hmg hobj hints hlen hg => ?_
 have KX:=hY w _ Y
 obtain ⟨fd,hb,hF⟩:=F w mg fa _ KX G.T.g hmg
 exact law_call KX G.T.g G.T.b G.T.builtins G.T.nolimit hg hobj hints (Nat.le_trans hlen hn2) hr hF hb (fun H hO hS => hsp w H a ns hlen hO hS) fun H e s' => hCX w H s₁ e s'
end L2
/- THE LAST THEOREM (shape; LID,My.* are yours):
  My.Adr: a structure of the addresses that your layer names (classes,functions); My.Txt K t: a structure (Prop) of the equations over K;
  My.txt_mk : {K} {implicit addresses ..} (e1 : nsIn K mainGlobals "law" = some (some (.ref f))) (e2 : K.lookup f = some ⟨oc,od,.func (fnOf "law" "law" params body scope dV kV doc pm an cdv ct),sl⟩) (e3 : codeIn K cdv "law" = true) .. : ∃ t,My.Txt K t
set_option maxRecDepth 100000 in
set_option maxHeartbeats 0 in
theorem PySem.Challenge.cw_LID_holds : PySem.Challenge.rw_LID.Holds := by
 w_on; o_law; k_head; (case hw => w_witness2)
 k_fill
 refine L2.walk_of (l:=PySem.Challenge.rw_LID) (n:=63) (k:=40) (x:="script") (CX:=fun w => ..) (sp:=fun _ => My.sp_law) rfl (by decide) rfl ⟨rfl,by decide,by decide⟩ (fun w h Y => PySem.W.kIn_of Y) ?F ?S ?C
 case F =>
  intro w mg fa h KX G hmg
  have T : ∃ t,My.Txt (L2.KOf KX) t:=by
   dsimp only [L2.KOf]                          -- K must stand as «<heap const> w.params» for k_is
   refine' My.txt_mk ?e1 ?e2 ?e3 ..
   (case e1 => PySem.W.k_is)                    -- in the order: a name -> its address -> its object -> its parts
   (case e2 => PySem.W.k_is)
   ..
  obtain ⟨t,T⟩:=T
  have e0:=hmg.symm.trans (PySem.W.mg_of KX G T.law)
  cases e0                                       -- fa is the law's own address
  exact ⟨_,fun s u => .of_eq rfl,fun base kb nb => My.law_fn T kb nb⟩     -- if «.of_eq rfl» comes too early: refine' ⟨_,?b,fun base kb nb => My.law_fn T kb nb⟩; exact fun s u => .of_eq rfl
 case S => exact fun w H a ns hl hO hS => ..
 case C => exact ..
(the tactic k_is has no namespace: write k_is) -/
namespace L2
open PySem PySem.Spec PyProof.Rows
noncomputable def defArgs (s : Stmt) : Arguments:=match s with
 | .FunctionDef _ a _ _ _ _ _ _ _ _ => a
 | _ => { posonlyargs:=[],args:=[],vararg:=none,kwonlyargs:=[],kw_defaults:=[],kwarg:=none,defaults:=[] }
noncomputable def defBody (s : Stmt) : List Stmt:=match s with
 | .FunctionDef _ _ b _ _ _ _ _ _ _ => b
 | _ => []
noncomputable def defScope (s : Stmt) : Scope:=match s with
 | .FunctionDef _ _ _ _ _ _ sc _ _ _ => sc
 | _ => { kind:=.function,names:=[],isGenerator:=false,isCoroutine:=false }
abbrev CX0 : CXT:=fun _ _ _ _ _ _ => False
abbrev E0 : XK:=fun _ _ _ => False
theorem pass0 {X : Cx} : Passes CX0 X E0:=fun _ _ _ _ _ _ _ h => h.elim
structure Fun (K : PySem.W.Frag) (x qual : Str) (st : Stmt) (f : Addr) (fd : FuncData) : Prop where
 ex : ∃ (oc : Value) (od : Option Addr) (kV doc pm : Value) (an : Option Addr) (cdv ct : Value) (osl : Array (Option Value)),
  fd = PySem.W.fnOf x qual (defArgs st) (defBody st) (defScope st) .none kV doc pm an cdv ct /\ K.lookup f = some ⟨oc,od,.func fd,osl⟩ /\ PySem.W.codeIn K cdv qual = true
 kp : PySem.W.keepIn K (.ref f) = true
section
variable {P : Program} {w : World} {K : PySem.W.Frag} {mg : Str -> Option Value} {base : Heap}
theorem Fun.ok {x qual : Str} {st : Stmt} {f : Addr} {fd : FuncData} {N ps : List Str} {k : Nat} {sp : Sp} (F : Fun K x qual st f fd) (S : FnScope N ps (defScope st)) (len : ∀ vs H Q E,sp vs H Q E -> vs.length = ps.length)
  (hbody : ∀ (cdv : Value) (A : Around) (outer : List Env) (s : Shared) (H : Hp) (vs : List V) (Q : VK) (E : XK),Room k (A.deeper (envOfC qual (defScope st) s.heap.objs.size f cdv)) -> sp vs H Q E ->
   ∃ t,PSs (cxOf CX0 P w K mg base N qual (defScope st) f cdv A outer s H E).nox (defBody st) t /\ t { nx:=fun _ H' => Q .non H',rt:=Q } (start N vs) H) : FnOk P w K mg base CX0 (k + 1) f fd ps sp:=by
 obtain ⟨oc,od,kV,doc,pm,an,cdv,ct,osl,rfl,lk,hcd⟩:=F.ex
 refine fn_of lk hcd S len fun A outer s H vs Q E hr hsp => ?_
 obtain ⟨t,h,q⟩:=hbody cdv A outer s H vs Q E hr hsp
 exact ⟨t,h.nox,q⟩
theorem Fun.binds {x qual : Str} {st : Stmt} {f : Addr} {fd : FuncData} {ps : List Str} (F : Fun K x qual st f fd)
  (h : ∀ (kV doc pm : Value) (an : Option Addr) (cdv ct : Value) (us : List Value),us.length = ps.length -> bindArgs (PySem.W.fnOf x qual (defArgs st) (defBody st) (defScope st) .none kV doc pm an cdv ct) ⟨us,[]⟩ = pure (ps.zip us)) : Binds K fd ps []:=by
 obtain ⟨oc,od,kV,doc,pm,an,cdv,ct,osl,rfl,lk,hcd⟩:=F.ex
 exact .all (h kV doc pm an cdv ct)
theorem fun_mk {x qual : Str} {st : Stmt} {f : Addr} {oc : Value} {od an : Option Addr} {osl : Array (Option Value)} {kV doc pm cdv ct : Value} (l : K.lookup f = some ⟨oc,od,.func (PySem.W.fnOf x qual (defArgs st) (defBody st) (defScope st) .none kV doc pm an cdv ct),osl⟩)
  (c : PySem.W.codeIn K cdv qual = true) (k : PySem.W.keepIn K (.ref f) = true) : Fun K x qual st f (PySem.W.fnOf x qual (defArgs st) (defBody st) (defScope st) .none kV doc pm an cdv ct):=⟨⟨oc,od,kV,doc,pm,an,cdv,ct,osl,rfl,l,c⟩,k⟩
end
section
variable {X : Cx}
theorem pv (i : Nat) {x : Str} {pos : Pos} (hN : X.N[i]? = some x:=by rfl) (hv : Vis X.env.scope x:=by first | exact Or.inl rfl | exact Or.inr (Or.inl rfl) | exact Or.inr (Or.inr rfl)) (hd : (x == ("__debug__" : Str)) = false:=by decide)
  (hcd : (x == ("__classdict__" : Str)) = false:=by decide) : PE X (.Name x pos) (tVar i):=pe_var hN hv hd hcd
end
theorem iteF {A B : Prop} (h : B) : if false = true then A else B:=by
 rw [if_neg Bool.false_ne_true]
 exact h
theorem iteT {A B : Prop} (h : A) : if true = true then A else B:=by
 rw [if_pos rfl]
 exact h
section
variable {κ : Type} [DecidableEq κ]
theorem nd_snoc : ∀ {l : List κ} {k : κ},l.Nodup -> ¬ k ∈ l -> (l ++ [k]).Nodup
 | [],k,_,_ => by simp
 | a :: r,k,h,hk => by
  obtain ⟨h1,h2⟩:=List.nodup_cons.mp h
  show (a :: (r ++ [k])).Nodup
  refine List.nodup_cons.mpr ⟨fun m => ?_,nd_snoc h2 fun m => hk (List.mem_cons.mpr (Or.inr m))⟩
  rcases List.mem_append.mp m with q | q
  ·
   exact h1 q
  ·
   exact hk (List.mem_cons.mpr (Or.inl (List.mem_singleton.mp q).symm))
end
end L2
set_option maxHeartbeats 1000000
namespace L2
open PySem PySem.Spec PyProof.Rows
theorem lookup_told {F : Str × NameKind -> Str × NameKind} (hF : ∀ p,(F p).1 = p.1) {x : Str} {k : NameKind} : ∀ {names : List (Str × NameKind)},names.lookup x = some k -> (names.map F).lookup x = some (F (x,k)).2
 | [],h => by cases h
 | (m,q) :: r,h => by
  have hm:=hF (m,q)
  rw [List.map_cons,show F (m,q) = (m,(F (m,q)).2) from Prod.ext hm rfl]
  by_cases e : x = m
  ·
   subst e
   rw [List.lookup_cons_self] at h ⊢
   cases h
   rfl
  ·
   have eb : (x == m) = false:=beq_eq_false_iff_ne.mpr e
   simp only [List.lookup,eb] at h ⊢
   exact lookup_told hF h
theorem lookup_relabel_free {env : Env} {x : Str} {names : List (Str × NameKind)} (h : names.lookup x = some .free) :
  (names.map fun (n,k) => if (k == NameKind.free && env.scope.kind == .function && env.kindOf n == some .cell) then (n,NameKind.cell) else (n,k)).lookup x = some .cell \/
  (names.map fun (n,k) => if (k == NameKind.free && env.scope.kind == .function && env.kindOf n == some .cell) then (n,NameKind.cell) else (n,k)).lookup x = some .free:=by
 rw [lookup_told (F:=fun (n,k) => if (k == NameKind.free && env.scope.kind == .function && env.kindOf n == some .cell) then (n,NameKind.cell) else (n,k)) (fun p => by dsimp only; split <;> rfl) h]
 dsimp only
 split
 ·
  exact .inl rfl
 ·
  exact .inr rfl
theorem closure_ok {scope : Scope} {env : Env} (h : ∀ y ∈ scope.names,y.2 = .free -> ∃ c,env.cells.lookup y.1 = some c) :
  ∃ cl,closureFor scope env = pure cl /\ (∀ x c,cl.lookup x = some c -> env.cells.lookup x = some c) /\ ∀ y ∈ scope.names,y.2 = .free -> ∃ c,cl.lookup y.1 = some c:=by
 have key : ∀ (names : List (Str × NameKind)) (cs : List (Str × Addr)),(∀ y ∈ names,y.2 = .free -> ∃ c,env.cells.lookup y.1 = some c) -> (∀ x c,cs.lookup x = some c -> env.cells.lookup x = some c) ->
   ∃ cl : List (Str × Addr),(forIn names cs (fun (x : Str × NameKind) (r : List (Str × Addr)) => (do
    if x.2 == .free then do
     let a <- cellOf env x.1
     pure (ForInStep.yield ((x.1,a) :: r))
    else pure (ForInStep.yield r) : Sem (ForInStep (List (Str × Addr))))) : Sem (List (Str × Addr))) = pure cl /\ (∀ x c,cl.lookup x = some c -> env.cells.lookup x = some c) /\
    (∀ x c,cs.lookup x = some c -> ∃ c',cl.lookup x = some c') /\ ∀ y ∈ names,y.2 = .free -> ∃ c,cl.lookup y.1 = some c:=by
  intro names
  induction names with
  | nil => intro cs _ hc; exact ⟨cs,rfl,hc,fun x c e => ⟨c,e⟩,fun y hy => nomatch hy⟩
  | cons y r ih =>
   intro cs hn hc
   obtain ⟨n,k⟩:=y
   by_cases hk : k = .free
   ·
    subst hk
    obtain ⟨c,ec⟩:=hn (n,.free) List.mem_cons_self rfl
    have hcell : cellOf env n = pure c:=by unfold cellOf; rw [ec]
    obtain ⟨cl,e,h1,h2,h3⟩:=ih ((n,c) :: cs) (fun y hy => hn y (List.mem_cons_of_mem _ hy)) (fun x c' q => by
     simp only [List.lookup_cons] at q
     cases hx : x == n with
     | true => rw [hx] at q; cases q; rw [eq_of_beq hx]; exact ec
     | false => rw [hx] at q; exact hc x c' q)
    refine ⟨cl,?_,h1,fun x c' q => ?_,fun y hy hf => ?_⟩
    ·
     rw [List.forIn_cons]
     show ((if (NameKind.free == NameKind.free) = true then (cellOf env n >>= fun a => pure (ForInStep.yield ((n,a) :: cs))) else pure (ForInStep.yield cs)) >>= _) = _
     rw [hcell]
     exact e
    ·
     cases hx : x == n with
     | true => exact h2 x c (by simp only [List.lookup_cons,hx])
     | false => exact h2 x c' (by simp only [List.lookup_cons,hx]; exact q)
    ·
     rcases List.mem_cons.mp hy with rfl | hy
     ·
      exact h2 n c (by simp [List.lookup_cons])
     ·
      exact h3 y hy hf
   ·
    obtain ⟨cl,e,h1,h2,h3⟩:=ih cs (fun y hy => hn y (List.mem_cons_of_mem _ hy)) hc
    have hb : (k == NameKind.free) = false:=by simpa using hk
    refine ⟨cl,?_,h1,h2,fun y hy hf => ?_⟩
    ·
     rw [List.forIn_cons]
     show ((if (k == NameKind.free) = true then (cellOf env n >>= fun a => pure (ForInStep.yield ((n,a) :: cs))) else pure (ForInStep.yield cs)) >>= _) = _
     rw [hb]
     exact e
    ·
     rcases List.mem_cons.mp hy with rfl | hy
     ·
      exact absurd hf hk
     ·
      exact h3 y hy hf
 obtain ⟨cl,e,h1,_,h3⟩:=key scope.names [] h (fun x c q => by simp at q)
 refine ⟨cl,?_,h1,h3⟩
 unfold closureFor
 exact congrArg (fun m => m >>= fun r => pure r) e
noncomputable def cxComp (X : Cx) (N' : List Str) (scope : Scope) (cl : List (Str × Addr)) (pins : List (Addr × Obj)) (s : Shared) (H : Hp) (C : Addr) (fp : List Addr) : Cx where
 prog:=X.prog
 w:=X.w
 K:=X.K
 mg:=X.mg
 base:=X.base
 A:=X.A
 N:=N'
 s₀:=s
 H₀:=H
 env:=compEnvC scope cl C X.env
 outer:=X.stack
 stack:=X.stack
 ex:=fp
 fn:=fun x => scope.names.lookup x == some .cell
 calm:=X.calm
 pn:=X.pn ++ pins
 xe:=fun _ _ => False
def PIf (X : Cx) (ifs : List Expr) (t : TT) : Prop :=
 ∀ (pins : List (Addr × Obj)) (s : Shared) (σ : St) (H : Hp) (Q : Bool -> Hp -> Prop),Inv X pins σ H s -> t σ H Q ->
  wpAny (model X.prog X.w) X.A (forIn ifs true fun c r => if r = true then do let ok <- isTrue c X.env (eval c X.env); pure (ForInStep.yield ok) else pure (ForInStep.yield r)) (TP X pins σ Q) X.xe s
def tYes : TT:=fun _ H Q => Q true H
theorem pif_nil {X : Cx} : PIf X [] tYes:=fun _ _ _ H _ I h => wpAny_tests_nil ⟨H,I,h⟩
theorem pif_one {X : Cx} {c : Expr} {t : TT} (h : PT X c t) : PIf X [c] t:=fun pins s σ H Q I hq => wpAny_tests_one (h pins s σ H Q I hq)
section
variable {prog : Program} {w : World} {A : Around} {R : Result -> Shared -> Prop} {s : Shared}
theorem compLoop_gen {elt target iter : Expr} {ifs : List Expr} {scope : Scope} {pos : Pos} {it acc : Value} {env : Env} (I : Nat -> Shared -> Prop)
  (turn : ∀ n s,I n s -> wpAny (model prog w) A (pyNext it) (fun r s₁ => match r with | .none => R (.ok .next) s₁ | .some v => wpAny (model prog w) A (letOwnedTupleGo target it v) (fun _ s₁' => wpAny (model prog w) A (assign target env v) (fun _ s₂ => wpAny (model prog w) A (forIn ifs true fun c r => if r = true then do let ok <- isTrue c env (eval c env); pure (ForInStep.yield ok) else pure (ForInStep.yield r)) (fun ok s₃ => if ok = true then wpAny (model prog w) A (eval elt env) (fun x s₄ => wpAny (model prog w) A (call (.builtin "list.append") [acc,x]) (fun _ s₅ => ∃ m,m < n /\ I m s₅) (fun _ _ => False) s₄) (fun _ _ => False) s₃ else ∃ m,m < n /\ I m s₃) (fun _ _ => False) s₂) (fun _ _ => False) s₁') (fun _ _ => False) s₁) (fun _ _ => False) s)
  (n : Nat) (h : I n s) : codeAny (model prog w) A (.compLoop (.ListComp elt [⟨target,iter,ifs,0⟩] scope pos) 0 it acc env) R s:=by
 refine codeAny_loop rfl I (fun j s₀ hI => ?_) n h; show wpAny _ A ((compTurn (.ListComp elt [⟨target,iter,ifs,0⟩] scope pos) 0 it acc env).onRaise (fun x => do noteFrame x env; theTreesLotGoes x)) _ _ s₀
 refine wpAny_noted ?_
 rw [compTurn_list]
 refine wpAny_bind (wpAny_standAt (wpAny_bind (wpAny_mono (turn j s₀ hI) (fun r s₁ h₁ => ?_) fun _ _ h' => h'.elim)))
 cases r with
 | none => exact wpAny_pure h₁
 | some v =>
  refine wpAny_bind (wpAny_mono h₁ (fun _ s₁' h₁' => ?_) fun _ _ h' => h'.elim)
  refine wpAny_bind (wpAny_mono h₁' (fun _ s₂ h₂ => wpAny_bind (wpAny_mono h₂ (fun ok s₃ h₃ => ?_) fun _ _ h' => h'.elim)) fun _ _ h' => h'.elim)
  cases ok with
  | false => exact (wpAny_pure (And.intro rfl h₃))
  | true =>
   exact wpAny_bind (wpAny_bind (wpAny_mono h₃ (fun x s₄ h₄ => wpAny_bind (wpAny_mono h₄ (fun _ s₅ h₅ => wpAny_pure (wpAny_pure ⟨rfl,h₅⟩)) fun _ _ h' => h'.elim)) fun _ _ h' => h'.elim))
end
def CompW (J : It) (g : TG) (tt : TT) (te : TE) (fin : List V -> Hp -> Prop) (σ₀ : St) (H₁ : Hp) : Prop :=
 ∃ W : Nat -> Nat -> List V -> St -> Hp -> Prop,(∃ m,W 0 m [] σ₀ H₁) /\ ∀ i m ys σ H,W i m ys σ H ->
  (J.stop i H /\ ys.length <= sizeLine /\ fin ys H) \/
  (J.go i H /\ ∀ x H',J.yld i H x H' -> g x σ H' fun σ2 H2 => tt σ2 H2 fun b H3 => if b = true then te σ2 H3 fun y H4 => ys.length < sizeLine /\ ∃ m',m' < m /\ W (i + 1) m' (ys ++ [y]) σ2 H4 else ∃ m',m' < m /\ W (i + 1) m' ys σ2 H3)
noncomputable def capS (nt : Nat) (cap : List Nat) (σ : St) : St:=List.replicate nt none ++ cap.map fun j => (σ[j]?).getD none
structure CompSc (X : Cx) (N' : List Str) (nt : Nat) (cap : List Nat) (scope : Scope) : Prop where
 kind : scope.kind = .function
 cells : ∀ y ∈ scope.names,y.2 = .cell -> scope.names.lookup y.1 = some .cell
 names : ∀ x ∈ scope.names,x.2 = .local -> scope.names.lookup x.1 = some .local
 free : ∀ y ∈ scope.names,y.2 = .free -> X.env.kindOf y.1 = some .cell \/ X.env.kindOf y.1 = some .free
 len : N'.length = nt + cap.length
 caps : ∀ (j : Nat) (x : Str),N'[nt + j]? = some x -> ∃ i,cap[j]? = some i /\ X.N[i]? = some x /\ scope.names.lookup x = some .free
theorem list_obj_append {l : Addr} {its : List Value} {n : Nat} {u : Value} {P : Program} {w : World} {A : Around} {E : Value -> Shared -> Prop} {s : Shared} {Q : Value -> Shared -> Prop}
  (e : s.heap.get? l = some { cls:=.type "list",data:=.seq its.toArray n }) (hz : its.length < sizeLine)
  (h : ∀ h' n',h'.get? l = some { cls:=.type "list",data:=.seq (its ++ [u]).toArray n' } -> (∀ b o,b ≠ l -> s.heap.get? b = some o -> h'.get? b = some o) -> Q .none { s with heap:=h' }) :
  wpAny (model P w) A (call (.builtin "list.append") [.ref l,u]) Q E s:=by
 refine call_meets F.slot_list_append ⟨_,e,rfl⟩ F.entry_list_append (F.args_list_append_2 _ _) (PySem.list_append l its.toArray n u (by rw [List.size_toArray]; omega)) ⟨e,?_⟩
 have q:=PySem.IsL.update e (·.push u)
 rw [List.push_toArray] at q
 exact h _ _ q (fun b o hb hu => (Heap.get?_update_other s.heap _ (Ne.symm hb)).trans hu)
theorem cellsFrom_app : ∀ (names : List (Str × NameKind)) (n : Nat) (acc : List (Str × Addr)),cellsFrom n names acc = cellsFrom n names [] ++ acc
 | [],_,_ => rfl
 | (x,k) :: r,n,acc => by
  unfold cellsFrom
  split
  ·
   rw [cellsFrom_app r (n + 1) ((x,n) :: acc),cellsFrom_app r (n + 1) [(x,n)],List.append_assoc]
   rfl
  ·
   exact cellsFrom_app r n acc
theorem lookup_app {α : Type} (x : Str) : ∀ (l m : List (Str × α)),(l ++ m).lookup x = (l.lookup x).or (m.lookup x)
 | [],_ => rfl
 | (y,v) :: r,m => by
  rw [List.cons_append,List.lookup_cons,List.lookup_cons,lookup_app x r m]
  cases x == y <;> rfl
theorem cells_either {names : List (Str × NameKind)} {n : Nat} {cl : List (Str × Addr)} {x : Str} {c : Addr} (h : (cellsFrom n names cl).lookup x = some c) : (cellsFrom n names []).lookup x = some c \/ ((cellsFrom n names []).lookup x = none /\ cl.lookup x = some c):=by
 rw [cellsFrom_app,lookup_app] at h
 cases e : (cellsFrom n names []).lookup x with
 | some d => rw [e] at h; exact .inl h
 | none => rw [e] at h; exact .inr ⟨rfl,h⟩
theorem cells_name {x : Str} {c : Addr} : ∀ {names : List (Str × NameKind)} {n : Nat} {acc : List (Str × Addr)},(x,c) ∈ cellsFrom n names acc -> (x,NameKind.cell) ∈ names \/ (x,c) ∈ acc
 | [],_,_,h => .inr h
 | (y,k) :: r,n,acc,h => by
  unfold cellsFrom at h
  split at h
  ·
   rename_i hk
   rcases cells_name h with q | q
   ·
    exact .inl (List.mem_cons_of_mem _ q)
   ·
    rcases List.mem_cons.mp q with q | q
    ·
     cases q
     have : k = .cell:=by simpa using hk
     subst this
     exact .inl List.mem_cons_self
    ·
     exact .inr q
  ·
   rcases cells_name h with q | q
   ·
    exact .inl (List.mem_cons_of_mem _ q)
   ·
    exact .inr q
theorem newEnvC {M : Model} {A : Around} {E : Value -> Shared -> Prop} {s : Shared} {scope : Scope} {globals : Addr} {closure : List (Str × Addr)} {qual : Str} {env : Env} {Q : Env -> Shared -> Prop}
  (hQ : Q (newEnv scope s.heap.objs.size globals (cellsFrom (s.heap.objs.size + 1) scope.names closure) qual none .none (some env) builtinsNs) { s with heap:=pushCells (s.heap.push { cls:=.type "dict",data:=.dict #[] }) scope.names }) :
  wpAny M A (newFunctionEnv scope globals closure [] qual none .none (some env)) Q E s:=by
 simp only [newFunctionEnv,Option.isSome_some,if_true]
 refine wpAny_bind (wpAny_alloc ?_)
 refine wpAny_bind (wpAny_layCells _ (fun name kind cells => by cases hkc : kind == NameKind.cell <;> simp [hkc]) _ _ _ _ ?_)
 rw [show ({ s with heap:=s.heap.push { cls:=.type "dict",data:=.dict #[] } } : Shared).heap.objs.size = s.heap.objs.size + 1 from Heap.size_push ..]
 refine wpAny_bind ?_
 rw [List.forIn_nil]
 exact wpAny_pure (wpAny_pure hQ)
theorem inv_comp {X : Cx} {pins : List (Addr × Obj)} {σ : St} {H : Hp} {s : Shared} {N' : List Str} {nt : Nat} {cap : List Nat} {scope : Scope} {cl : List (Str × Addr)} {fp : List Addr} {h' : Heap} {C : Addr} {tk : Nat} {pl : List (Addr × Obj)}
  (S : CompSc X N' nt cap scope) (I : Inv X pins σ H s) (hcl : ∀ x c,cl.lookup x = some c -> X.env.cells.lookup x = some c) (hclh : ∀ y ∈ scope.names,y.2 = .free -> ∃ c,cl.lookup y.1 = some c)
  (hf : ∀ b ∈ fp,FpOk X pins H b) (hfl : ∀ b ∈ fp,b < s.heap.objs.size) (hC : s.heap.objs.size < C) (hn : h'.Ns C fun _ => none) (hk : ∀ b o,s.heap.get? b = some o -> h'.get? b = some o)
  (hp : ∀ p ∈ pl,h'.get? p.1 = some p.2 /\ s.heap.objs.size = p.1 /\ ∀ v,p.2.data ≠ .cell v) (hcc : CellsOk h' (C + 1) (cellsFrom (C + 1) scope.names [])) :
  Inv (cxComp X N' scope (cellsFrom (C + 1) scope.names cl) pins s H C fp) pl (capS nt cap σ) H { s with heap:=h',toks:=tk }:=by
 have two : ∀ x c,(cellsFrom (C + 1) scope.names cl).lookup x = some c -> (C + 1 <= c /\ (cellsFrom (C + 1) scope.names []).lookup x = some c) \/ X.env.cells.lookup x = some c:=fun x c e => by
  rcases cells_either e with q | q
  ·
   exact .inl ⟨(hcc.empty x c (PySem.mem_of_lookup q)).2,q⟩
  ·
   exact .inr (hcl x c q.2)
 have low : ∀ x c,X.env.cells.lookup x = some c -> c < s.heap.objs.size:=fun x c e => by
  obtain ⟨v,q⟩:=I.cell x c e
  exact q.lt
 have hok : (cxComp X N' scope (cellsFrom (C + 1) scope.names cl) pins s H C fp).Ok:=by
  refine ⟨I.ok.mod,S.kind,I.ok.glob,I.ok.blt,Nat.le_of_lt hC,fun x y c e1 e2 => ?_,fun x hx => ?_,fun x c z e => ?_,I.ok.hd,I.ok.frames,.inl rfl,fun b hb => ?_,I.bs,Nat.le_trans I.ok.bsz I.sz,fun b o e hb => ?_,fun b hb z => ?_,I.stack,I.stkFree⟩
  ·
   rcases two x c e1 with ⟨q1,p1⟩ | q1
   ·
    rcases two y c e2 with ⟨q2,p2⟩ | q2
    ·
     exact name_of_addr hcc.apart (PySem.mem_of_lookup p1) (PySem.mem_of_lookup p2)
    ·
     exact absurd (Nat.lt_of_lt_of_le (Nat.lt_succ_of_lt (Nat.lt_trans (low y c q2) hC)) q1) (Nat.lt_irrefl _)
   ·
    rcases two y c e2 with ⟨q2,p2⟩ | q2
    ·
     exact absurd (Nat.lt_of_lt_of_le (Nat.lt_succ_of_lt (Nat.lt_trans (low x c q1) hC)) q2) (Nat.lt_irrefl _)
    ·
     exact I.ok.inj x y c q1 q2
  ·
   have hx' : (relabel scope X.env).names.lookup x = some .cell \/ (relabel scope X.env).names.lookup x = some .free:=hx
   have hm : ∃ k,(x,k) ∈ (relabel scope X.env).names /\ (k = .cell \/ k = .free):=by
    rcases hx' with z | z
    ·
     exact ⟨_,PySem.mem_of_lookup z,.inl rfl⟩
    ·
     exact ⟨_,PySem.mem_of_lookup z,.inr rfl⟩
   obtain ⟨k,hm,hk⟩:=hm
   obtain ⟨⟨n,k0⟩,hm0,e⟩:=List.mem_map.mp hm
   have e' : (if (k0 == NameKind.free && X.env.scope.kind == .function && X.env.kindOf n == some .cell) = true then (n,NameKind.cell) else (n,k0)) = (x,k):=e
   by_cases hk0 : k0 = .free
   ·
    subst hk0
    have en : n = x:=by split at e' <;> exact congrArg Prod.fst e'
    subst en
    obtain ⟨c,ec⟩:=hclh (n,.free) hm0 rfl
    show ∃ c,(cellsFrom (C + 1) scope.names cl).lookup n = some c
    rw [cellsFrom_app,lookup_app,ec]
    cases (cellsFrom (C + 1) scope.names []).lookup n with
    | none => exact ⟨c,rfl⟩
    | some d => exact ⟨d,rfl⟩
   ·
    have hb : (k0 == NameKind.free) = false:=by simpa using hk0
    rw [hb] at e'
    simp only [Bool.false_and,Bool.false_eq_true,if_false] at e'
    cases e'
    rcases hk with rfl | rfl
    ·
     obtain ⟨c,ec⟩:=cell_has (n:=C + 1) (S.cells _ hm0 rfl)
     refine ⟨c,?_⟩
     show (cellsFrom (C + 1) scope.names cl).lookup _ = some c
     rw [cellsFrom_app,lookup_app,ec]
     rfl
    ·
     exact absurd rfl hk0
  ·
   have z' : scope.names.lookup x = some .cell:=by simpa [cxComp] using z
   obtain ⟨d,ed⟩:=cell_has (n:=C + 1) z'
   have e' : (cellsFrom (C + 1) scope.names cl).lookup x = some c:=e
   rw [cellsFrom_app,lookup_app,ed] at e'
   cases e'
   have:=(hcc.empty x _ (PySem.mem_of_lookup ed)).2
   show s.heap.objs.size <= _
   omega
  ·
   obtain ⟨f0,f1,f2,f3,f4,f5⟩:=hf b hb
   refine ⟨fun z => absurd (hfl b hb) (Nat.not_lt.mpr (by rw [show b = C from z]; exact Nat.le_of_lt hC)),fun x c e => ?_⟩
   rcases two x c e with ⟨q,_⟩ | q
   ·
    intro z
    rw [z] at q
    exact absurd (Nat.lt_of_lt_of_le (Nat.lt_succ_of_lt (Nat.lt_trans (hfl b hb) hC)) q) (Nat.lt_irrefl _)
   ·
    exact f4 x c q
  ·
   obtain ⟨f0,f1,f2,f3,f4,f5⟩:=hf b hb
   rcases f3 with q | q
   ·
    exact I.ok.noex b o e q
   ·
    exact absurd (Heap.lt_size (I.ok.bs b o e).1) (Nat.not_lt.mpr q)
  ·
   obtain ⟨f0,f1,f2,f3,f4,f5⟩:=hf b hb
   rcases List.mem_cons.mp (I.stkSub b z) with q | q
   ·
    exact f1 q
   ·
    exact f2 q
 obtain ⟨m,hnm,hl⟩:=id I.loc
 refine ⟨hok,rfl,I.bare,Un.kept hk,⟨_,hn,fun i x v e1 e2 e3 => ?_⟩,fun x c e => ?_,I.hok.fresh (Nat.le_of_lt hC),fun x c e => ?_,fun p hp' => ?_,I.hok.kept hk,?_⟩
 ·
  -- a name of the block: one that it takes from around
  unfold capS at e2
  by_cases hi : i < nt
  ·
   rw [List.getElem?_append_left (by simpa using hi),List.getElem?_replicate] at e2
   split at e2 <;> cases e2
  ·
   obtain ⟨j,rfl⟩ : ∃ j,i = nt + j:=⟨i - nt,by omega⟩
   obtain ⟨k,ck,hN,hfree⟩:=S.caps j x e1
   rw [List.getElem?_append_right (by simp),List.length_replicate,Nat.add_sub_cancel_left,List.getElem?_map,ck] at e2
   have e2' : (σ[k]?).getD none = some v:=Option.some.inj e2
   have e2'' : σ[k]? = some (some v):=by
    cases q : σ[k]? with
    | none => rw [q] at e2'; cases e2'
    | some z => rw [q] at e2'; exact congrArg some e2'
   have hkd:=S.free (x,.free) (PySem.mem_of_lookup hfree) rfl
   obtain ⟨u,ru,lk⟩:=hl k x v hN e2'' (.inr hkd)
   refine ⟨u,ru,.inr ⟨lookup_relabel_free hfree,?_⟩⟩
   rcases lk with ⟨kl,_⟩ | ⟨_,c,hc,hcell⟩
   ·
    rcases hkd with z | z <;> (rw [kl] at z; cases z)
   ·
    obtain ⟨c',hc'⟩:=hclh (x,.free) (PySem.mem_of_lookup hfree) rfl
    have e:=hcl x c' hc'
    rw [hc] at e; cases e
    obtain ⟨o,ho,hd⟩:=hcell
    refine ⟨c,?_,o,hk _ _ ho,hd⟩
    show (cellsFrom (C + 1) scope.names cl).lookup x = some c
    rw [cellsFrom_app,lookup_app]
    cases q : (cellsFrom (C + 1) scope.names []).lookup x with
    | none => exact hc'
    | some d =>
     rcases cells_name (PySem.mem_of_lookup q) with z | z
     ·
      have:=S.cells _ z rfl
      rw [hfree] at this
      cases this
     ·
      cases z
 ·
  rcases two x c e with ⟨_,q⟩ | q
  ·
   exact ⟨none,(hcc.empty x c (PySem.mem_of_lookup q)).1⟩
  ·
   obtain ⟨v,o,ho,hd⟩:=I.cell x c q
   exact ⟨v,o,hk _ _ ho,hd⟩
 ·
  rcases two x c e with ⟨q,_⟩ | q
  ·
   exact I.hok.fresh (Nat.le_of_lt (Nat.lt_of_lt_of_le (Nat.lt_succ_of_lt hC) q))
  ·
   exact I.freeC x c q
 ·
  rcases List.mem_append.mp hp' with z | z
  ·
   obtain ⟨e,n,n1,n2,d⟩:=I.pin p z
   refine ⟨hk _ _ e,n,fun q => ?_,fun q => ?_,d⟩
   ·
    exact absurd (Heap.lt_size e) (Nat.not_lt.mpr (by rw [show p.1 = C from q]; exact Nat.le_of_lt hC))
   ·
    rcases List.mem_cons.mp (I.stkSub p.1 q) with q | q
    ·
     exact n1 q
    ·
     exact n2 q
  ·
   obtain ⟨e,n,d⟩:=hp p z
   refine ⟨e,I.hok.fresh (by omega),fun q => ?_,fun q => ?_,d⟩
   ·
    exact absurd (n.trans (show p.1 = C from q)) (Nat.ne_of_lt hC)
   ·
    have:=I.stkSub p.1 q
    rcases List.mem_cons.mp this with q | q
    ·
     exact absurd I.lt (Nat.not_lt.mpr (by rw [<- q,n]; exact Nat.le_refl _))
    ·
     exact I.nofs (by omega) q
 ·
  unfold capS
  show _ = N'.length
  rw [List.length_append,List.length_replicate,List.length_map,S.len]
theorem HOk.track {P : Program} {w : World} {H : Hp} {h h' : Heap} {a C : Addr} {o : HO} (x : HOk P w H h) (hn : H a = none) (hC : H C = none) (k : ∀ b u,b ≠ C -> h.get? b = some u -> h'.get? b = some u) (new : ObjOk P w (upd H a o) h' a o) : HOk P w (upd H a o) h':=fun b u e => by
 by_cases hb : b = a
 ·
  subst hb; rw [upd_same] at e; cases e; exact new
 ·
  rw [upd_ne hb] at e
  have nC : ∀ c z,H c = some z -> c ≠ C:=fun c z q r => by rw [r,hC] at q; cases q
  refine (x b u e).stay (fun c v hc q => k c v ?_ q) (fun c q => by rw [upd_ne (ne_of_none q hn)]; exact q) fun c xs q => by rw [upd_ne (ne_of_none q hn)]; exact q
  rcases hc with rfl | hc
  ·
   exact nC c u e
  ·
   exact nC c _ hc
theorem comp_run {X : Cx} {pins : List (Addr × Obj)} {σ : St} {H₂ : Hp} {s₂ : Shared} {N' : List Str} {nt : Nat} {cap : List Nat} {scope : Scope} {cl : List (Str × Addr)} {elt tg iter : Expr} {ifs : List Expr} {pos : Pos} {g : TG} {tt : TT} {te : TE}
  {it : Addr} {fp : List Addr} {tn : Nat -> Heap -> Prop} {J : It} {fin : List V -> Hp -> Prop} {E : Value -> Shared -> Prop} {RR : Value -> Addr -> Result -> Shared -> Prop}
  (hc : X.calm = true) (S : CompSc X N' nt cap scope) (hcl : ∀ x c,cl.lookup x = some c -> X.env.cells.lookup x = some c) (hclh : ∀ y ∈ scope.names,y.2 = .free -> ∃ c,cl.lookup y.1 = some c)
  (hX : ∀ cl pins s H C fp,PG (cxComp X N' scope cl pins s H C fp) tg g /\ PIf (cxComp X N' scope cl pins s H C fp) ifs tt /\ PE (cxComp X N' scope cl pins s H C fp) elt te)
  (I : Inv X pins σ H₂ s₂) (T : Turn X.prog X.w X.K tg J fp it tn) (st : tn 0 s₂.heap) (hf : ∀ b ∈ fp,FpOk X pins H₂ b) (hw : CompW J g tt te fin (capS nt cap σ) H₂)
  (hRR : ∀ (D C : Addr) (s₄ : Shared) (m : Str -> Option Value) (ys : List V) (H' : Hp),s₄.heap.Ns C m -> s₂.heap.objs.size <= D -> s₂.heap.objs.size <= C -> C ≠ D -> H' D = none -> H' C = none -> ys.length <= sizeLine -> fin ys H' ->
   (∀ h',(∀ b o,b ≠ C -> s₄.heap.get? b = some o -> h'.get? b = some o) -> Inv X pins σ (upd H' D (.lst ys)) { s₄ with heap:=h' }) -> RR (.ref D) C (.ok .next) s₄) :
  wpAny (model X.prog X.w) X.A (newList []) (fun acc s₃ => wpAny (model X.prog X.w) X.A (newFunctionEnv scope X.env.globals cl [] X.env.qual none .none (some X.env)) (fun cenv s₄ =>
   codeAny (model X.prog X.w) X.A (.compStart (.ListComp elt [⟨tg,iter,ifs,0⟩] scope pos) 0 (.ref it) acc { cenv with scope:=relabel scope X.env }) (RR acc cenv.locals) s₄) E s₃) E s₂:=by
 refine wpAny_newObj_type (newEnvC ?_)
 dsimp only
 generalize hH2 : s₂.heap.push { cls:=.type "list",dict:=none,data:=.seq ([] : List Value).toArray } = B
 generalize hD : s₂.heap.objs.size = D
 have hB : B.objs.size = D + 1:=by rw [<- hH2,Heap.size_push,hD]
 have hcc0 : CellsOk (pushCells (B.push { cls:=.type "dict",data:=.dict #[] }) scope.names) (B.objs.size + 1) (cellsFrom (B.objs.size + 1) scope.names []):=by
  have:=cellsFrom_ok scope.names (B.push { cls:=.type "dict",data:=.dict #[] }) (B.objs.size + 1) [] ⟨fun _ _ hm => (nomatch hm),List.Pairwise.nil⟩ (by rw [Heap.size_push]; exact Nat.le_refl _)
  rw [Heap.size_push] at this
  exact this
 have hns₁ : (pushCells (B.push { cls:=.type "dict",data:=.dict #[] }) scope.names).Ns B.objs.size fun _ => none:=(Heap.Ns.new B (.type "dict")).keeps (pushCells_keeps _ _)
 have kp₁ : ∀ b o,B.get? b = some o -> (pushCells (B.push { cls:=.type "dict",data:=.dict #[] }) scope.names).get? b = some o:=fun b o e => pushCells_keeps _ _ b o (Heap.get?_push_of_some _ e)
 generalize hCe : B.objs.size = C at hns₁ hcc0 ⊢
 generalize pushCells (B.push { cls:=.type "dict",data:=.dict #[] }) scope.names = h₁ at hns₁ hcc0 kp₁ ⊢
 have hCD : C = D + 1:=hCe.symm.trans hB
 have hDC : D ≠ C:=by rw [hCD]; exact Nat.ne_of_lt (Nat.lt_succ_self _)
 have hDlt : s₂.heap.objs.size < C:=by rw [hD,hCD]; exact Nat.lt_succ_self _
 have below : ∀ b o,s₂.heap.get? b = some o -> b ≠ C /\ b ≠ D:=fun b o e => by
  have:=Heap.lt_size e
  rw [hD] at this
  exact ⟨by rw [hCD]; exact Nat.ne_of_lt (Nat.lt_succ_of_lt this),Nat.ne_of_lt this⟩
 have old : ∀ b o,s₂.heap.get? b = some o -> h₁.get? b = some o:=fun b o e => kp₁ b o (hH2 ▸ Heap.get?_push_of_some _ e)
 have hacc : h₁.get? D = some { cls:=.type "list",data:=.seq ([] : List Value).toArray 0 }:=kp₁ _ _ (hH2 ▸ hD ▸ Heap.get?_push_size _ rfl)
 have hst₁ : tn 0 h₁:=T.keep _ _ _ st fun b hb o e => old b o e
 have hfl : ∀ b ∈ fp,b < s₂.heap.objs.size:=fun b hb => by obtain ⟨o,e,_⟩:=T.obj _ _ st b hb; exact Heap.lt_size e
 obtain ⟨W,⟨m0,w0⟩,turn⟩:=hw
 obtain ⟨hg,hi,he⟩:=hX (cellsFrom (C + 1) scope.names cl) pins s₂ H₂ C fp
 have stat : ∀ {H' : Hp} {k : Nat} {its : List Value},(∀ b ∈ fp,H' b = none) -> ∀ b ∈ fp,FpOk (cxComp X N' scope (cellsFrom (C + 1) scope.names cl) pins s₂ H₂ C fp) [(D,{ cls:=.type "list",data:=.seq its.toArray k })] H' b:=fun {H' k its} hn b hb => by
  obtain ⟨f0,f1,f2,f3,f4,f5⟩:=hf b hb
  have hlt:=hfl b hb
  refine ⟨hn b hb,fun z => ?_,fun z => ?_,.inl hb,fun x c e => ?_,fun p hp => ?_⟩
  ·
   rw [show b = C from z] at hlt; exact absurd hlt (Nat.not_lt.mpr (Nat.le_of_lt hDlt))
  ·
   rcases List.mem_cons.mp (I.stkSub b z) with q | q
   ·
    exact f1 q
   ·
    exact f2 q
  ·
   rcases cells_either e with q | q
   ·
    have:=(hcc0.empty x c (PySem.mem_of_lookup q)).2
    intro z
    rw [z] at this
    exact absurd (Nat.lt_of_lt_of_le (Nat.lt_succ_of_lt (Nat.lt_trans hlt hDlt)) this) (Nat.lt_irrefl _)
   ·
    exact f4 x c (hcl x c q.2)
  ·
   rcases List.mem_append.mp hp with z | z
   ·
    exact f5 p z
   ·
    rw [List.mem_singleton.mp z]
    intro e
    rw [<- (show D = b from e),hD] at hlt
    exact Nat.lt_irrefl _ hlt
 have loop : ∀ s₃ : Shared,s₃ = { s₂ with heap:=h₁ } -> codeAny (model X.prog X.w) X.A (.compLoop (.ListComp elt [⟨tg,iter,ifs,0⟩] scope pos) 0 (.ref it) (.ref D) (compEnvC scope (cellsFrom (C + 1) scope.names cl) C X.env)) (RR (.ref D) C) s₃:=by
  rintro s₃ rfl
  refine compLoop_gen (fun n s' => ∃ i ys its k σ' H',Inv (cxComp X N' scope (cellsFrom (C + 1) scope.names cl) pins s₂ H₂ C fp) [(D,{ cls:=.type "list",data:=.seq its.toArray k })] σ' H' s' /\ Vals ys its /\ tn i s'.heap /\ (∀ b ∈ fp,H' b = none) /\ W i n ys σ' H' /\ ys.length <= sizeLine) ?_ m0
   ⟨0,[],[],0,capS nt cap σ,H₂,inv_comp (tk:=s₂.toks) S I hcl hclh hf hfl hDlt hns₁ old (fun p hp => ?_) hcc0,.nil,hst₁,fun b hb => (hf b hb).1,w0,Nat.zero_le _⟩
  ·
   rintro n s3 ⟨i,ys,its,k,σ3,H3,I3,rv,st3,fr3,w3,hz⟩
   have pD:=I3.pin (D,{ cls:=.type "list",data:=.seq its.toArray k }) (List.mem_append_right _ (List.mem_singleton.mpr rfl))
   rcases turn i n ys σ3 H3 w3 with ⟨stop,hz',hfin⟩ | ⟨go,step⟩
   ·
    refine thn (T.done (cxComp X N' scope (cellsFrom (C + 1) scope.names cl) pins s₂ H₂ C fp) rfl rfl rfl hc i _ s3 σ3 H3 (fun _ _ => False) I3 (stat fr3) st3 stop) fun r s4 ⟨hr,I4⟩ => ?_
    subst hr
    obtain ⟨m4,hn4,_⟩:=I4.loc
    have pD4:=I4.pin (D,{ cls:=.type "list",data:=.seq its.toArray k }) (List.mem_append_right _ (List.mem_singleton.mpr rfl))
    refine hRR D C s4 m4 ys H3 hn4 (by rw [hD]; exact Nat.le_refl _) (Nat.le_of_lt hDlt) (Ne.symm hDC) pD4.2.1 I4.free hz' hfin fun h' k' => ?_
    have nD : ∀ b u,H3 b = some u -> b ≠ D:=fun b u e z => by rw [z,pD4.2.1] at e; cases e
    have nDs : ∀ b o,s₂.heap.get? b = some o -> b ≠ D /\ b ≠ C:=fun b o e => ⟨(below b o e).2,(below b o e).1⟩
    have B4:=I4.base
    refine I.call' (s':={ s4 with heap:=h' }) (ch:=fp) I4.os ⟨fun b o e n hb hx => k' b o (nDs b o e).2 (B4.keep b o e n hb hx),fun b o e n hb hx => ?_,fun b o e n hx => ?_,fun b o e hx => ?_,fun b xs e => ?_,fun b o u e => ?_,fun b ps e => ?_⟩ ?_ I4.bare fun b hb => ?_
    ·
     obtain ⟨sl,q⟩:=B4.slot b o e n hb hx
     exact ⟨sl,k' b _ (nDs b o e).2 q⟩
    ·
     rw [upd_ne (nDs b o e).1]; exact B4.free b o e n hx
    ·
     obtain ⟨o',q⟩:=B4.there b o e hx
     exact ⟨o',k' b _ (nDs b o e).2 q⟩
    ·
     have q:=B4.tups b xs e
     rw [upd_ne (nD _ _ q)]; exact q
    ·
     have q:=B4.frzs b o u e
     rw [upd_ne (nD _ _ q)]; exact q
    ·
     obtain ⟨more,q⟩:=B4.tbls b ps e
     exact ⟨more,by rw [upd_ne (nD _ _ q)]; exact q⟩
    ·
     exact I4.hok.track pD4.2.1 I4.free k' ⟨hz',its,k,rv,k' D _ hDC pD4.1⟩
    ·
     obtain ⟨f0,f1,f2,f3,f4,f5⟩:=hf b hb
     exact ⟨f3,f1,f4,f5⟩
   ·
    refine thn (T.item (cxComp X N' scope (cellsFrom (C + 1) scope.names cl) pins s₂ H₂ C fp) rfl rfl rfl hc i _ s3 σ3 H3 (fun _ _ => False) I3 (stat fr3) st3 go) fun r s4 ⟨u,hr,h4⟩ => ?_
    subst hr
    refine thn h4 fun _ s5 ⟨x,H5,I5,r5,y5,st5,fr5⟩ => ?_
    have I5':=I5.pinned (stat fr5) (T.obj _ _ st5)
    refine thn (hg _ s5 σ3 H5 x u _ I5' r5 (step x H5 y5)) fun _ s6 ⟨σ6,H6,I6,q6⟩ => ?_
    refine thn (hi _ s6 σ6 H6 _ I6 q6) fun ok s7 ⟨H7,I7,q7⟩ => ?_
    have back : ∀ {σ8 : St} {H8 : Hp} {s8 : Shared},Inv (cxComp X N' scope (cellsFrom (C + 1) scope.names cl) pins s₂ H₂ C fp) ([(D,{ cls:=.type "list",data:=.seq its.toArray k })] ++ pinsAt fp s5.heap) σ8 H8 s8 -> tn (i + 1) s8.heap /\ ∀ b ∈ fp,H8 b = none:=fun {σ8 H8 s8} I8 =>
     ⟨T.keep _ _ _ st5 fun b hb o e => (I8.pin (b,o) (List.mem_append_right _ (List.mem_append_right _ (mem_pinsAt hb e)))).1,fun b hb => by
      obtain ⟨o,e,d⟩:=T.obj _ _ st5 b hb
      exact (I8.pin (b,o) (List.mem_append_right _ (List.mem_append_right _ (mem_pinsAt hb e)))).2.1⟩
    cases ok with
    | false =>
     rw [if_neg Bool.false_ne_true] at q7 ⊢
     obtain ⟨m',hm,w7⟩:=q7
     exact ⟨m',hm,i + 1,ys,its,k,σ6,H7,I7.unpinned,rv,(back I7).1,(back I7).2,w7,hz⟩
    | true =>
     rw [if_pos rfl] at q7 ⊢
     refine thn (he _ s7 σ6 H7 _ I7 q7) fun uy s8 ⟨y,H8,I8,ry,hz8,m',hm,w8⟩ => ?_
     have pD8:=I8.pin (D,{ cls:=.type "list",data:=.seq its.toArray k }) (List.mem_append_right _ (List.mem_append_left _ (List.mem_singleton.mpr rfl)))
     have hl:=rv.length
     refine list_obj_append pD8.1 (by omega) fun h' k' e' kk => ?_
     have I9 : Inv (cxComp X N' scope (cellsFrom (C + 1) scope.names cl) pins s₂ H₂ C fp) [] σ6 H8 { s8 with heap:=h' }:=by
      refine Inv.turned (t':=s8.toks) (it:=D) (I8.pins_of (pins':=[]) (fun p hp => nomatch hp)) (fun b o hb e => kk b o hb e) pD8.2.1 pD8.2.2.1 (.inr (by show s₂.heap.objs.size <= D; rw [hD]; exact Nat.le_refl _)) (fun x c e z => ?_) (fun p hp z => ?_)
      ·
       rcases cells_either e with q | q
       ·
        have:=(hcc0.empty x c (PySem.mem_of_lookup q)).2
        rw [z,hCD] at this
        omega
       ·
        obtain ⟨v,q⟩:=I.cell x c (hcl x c q.2)
        have:=q.lt
        rw [z,hD] at this
        exact Nat.lt_irrefl _ this
      ·
       rw [List.append_nil] at hp
       have:=Heap.lt_size (I.pin p hp).1
       rw [z,hD] at this
       exact Nat.lt_irrefl _ this
     refine ⟨m',hm,i + 1,ys ++ [y],its ++ [uy],k',σ6,H8,I9.pins_of fun p hp => ?_,rv.append (.cons ry .nil),?_,(back I8).2,w8,?_⟩
     ·
      rw [List.mem_singleton.mp hp]
      exact ⟨e',pD8.2.1,pD8.2.2.1,pD8.2.2.2.1,fun v z => by cases z⟩
     ·
      refine T.keep _ _ _ (back I8).1 fun b hb o e => kk b o (fun z => ?_) e
      have:=hfl b hb
      rw [z,hD] at this
      exact Nat.lt_irrefl _ this
     ·
      rw [List.length_append,List.length_singleton]; omega
  ·
   rw [List.mem_singleton.mp hp]
   exact ⟨hacc,hD,fun v z => by cases z⟩
 exact codeAny_compStart_list (loop _ rfl) (T.self _ 0 _ _ _ hst₁ (loop _ rfl))
def tComp (wi : TI) (g : TG) (tt : TT) (te : TE) (nt : Nat) (cap : List Nat) : TE:=fun σ H Q => wi σ H fun J H1 => CompW J g tt te (fun ys H' => ∀ p,H' p = none -> Q (.ref p) (upd H' p (.lst ys))) (capS nt cap σ) H1
theorem pe_comp {X : Cx} {N' : List Str} {nt : Nat} {cap : List Nat} {scope : Scope} {elt tg iter : Expr} {ifs : List Expr} {pos : Pos} {wi : TI} {g : TG} {tt : TT} {te : TE} (hc : X.calm = true) (S : CompSc X N' nt cap scope) (hi : PI X tg iter wi)
  (hX : ∀ cl pins s H C fp,PG (cxComp X N' scope cl pins s H C fp) tg g /\ PIf (cxComp X N' scope cl pins s H C fp) ifs tt /\ PE (cxComp X N' scope cl pins s H C fp) elt te)
  (hs : ∀ x,foldedSetIterable iter X.env x = pure x:=by intro _; rfl) : PE X (.ListComp elt [⟨tg,iter,ifs,0⟩] scope pos) (tComp wi g tt te nt cap):=by
 intro pins s σ H Q I h
 rw [eval_ListComp]
 obtain ⟨cl,hclos,hcl,hclh⟩:=closure_ok (scope:=scope) (env:=X.env) fun y hy hf => I.ok.has y.1 (S.free y hy hf)
 refine wpAny_comprehension_free (use:=none) rfl hs hclos S.kind S.names (thn (hi pins s σ H _ I h) fun v s1 h1 => thn h1 fun itv s2 h2 => ?_)
 obtain ⟨it,fp,tn,J,H2,rfl,I2,T,st2,f2,hw⟩:=h2
 refine comp_run (RR:=fun acc C => compPost (model X.prog X.w) X.A X.xe none (EP X pins σ Q) acc C) hc S hcl hclh hX I2 T st2 f2 hw fun D C s4 m ys H' hn hD hC hDC nD nC hz hfin k => ?_
 refine ⟨m,hn,fun h' hs' => ?_⟩
 exact ⟨.ref D,_,k h' fun b o hb e => hs'.extBut b o hb e,rfl,hfin D nD⟩
def tSetComp (wi : TI) (g : TG) (tt : TT) (te : TE) (nt : Nat) (cap : List Nat) (i : Nat) : TS:=fun D σ H => wi σ H fun J H1 => CompW J g tt te (fun ys H' => ∀ p,H' p = none -> D.nx (σ.set i (some (.ref p))) (upd H' p (.lst ys))) (capS nt cap σ) H1
theorem ps_setC {X : Cx} {N' : List Str} {nt : Nat} {cap : List Nat} {scope : Scope} {elt tg iter : Expr} {ifs : List Expr} {pos pos' spos : Pos} {wi : TI} {g : TG} {tt : TT} {te : TE} {i : Nat} {x : Str} (hc : X.calm = true) (hN : X.N.Nodup) (hi' : X.N[i]? = some x) (hx : Loc X.env.scope x) (S : CompSc X N' nt cap scope) (hi : PI X tg iter wi)
  (hX : ∀ cl pins s H C fp,PG (cxComp X N' scope cl pins s H C fp) tg g /\ PIf (cxComp X N' scope cl pins s H C fp) ifs tt /\ PE (cxComp X N' scope cl pins s H C fp) elt te)
  (hsw : swapsWith (.ListComp elt [⟨tg,iter,ifs,0⟩] scope pos) (some (.Name x pos')) spos.line X.env = pure true:=by rfl)
  (hs : ∀ x,foldedSetIterable iter X.env x = pure x:=by intro _; rfl) (hf : X.fn x = true \/ X.env.scope.names.lookup x = some .local:=by first | exact .inl rfl | exact .inr rfl | assumption) :
  PS X (.Assign [.Name x pos'] (.ListComp elt [⟨tg,iter,ifs,0⟩] scope pos) spos) (tSetComp wi g tt te nt cap i):=by
 intro pins s σ H Dn I h
 rw [exec_Assign_Name_used _ _ _ _ hsw]
 obtain ⟨cl,hclos,hcl,hclh⟩:=closure_ok (scope:=scope) (env:=X.env) fun y hy hf => I.ok.has y.1 (S.free y hy hf)
 refine wpAny_bind (wpAny_standAt (wpAny_bind ?_))
 show wpAny _ X.A (do let _ <- comprehension (.ListComp elt [⟨tg,iter,ifs,0⟩] scope pos) scope X.env _ (newList []) false (eval iter X.env) (some (assign (.Name x pos') X.env))) _ _ s
 refine wpAny_bind (wpAny_mono (wpAny_comprehension_free (use:=some (assign (.Name x pos') X.env)) (Q:=fun _ s' => SP X pins Dn .next s') rfl hs hclos S.kind S.names
  (thn (hi pins s σ H _ I h) fun v s1 h1 => thn h1 fun itv s2 h2 => ?_)) (fun _ s' hq => wpAny_pure (wpAny_pure hq)) fun _ _ e => e)
 obtain ⟨it,fp,tn,J,H2,rfl,I2,T,st2,f2,hw⟩:=h2
 refine comp_run (RR:=fun acc C => compPost (model X.prog X.w) X.A X.xe (some (assign (.Name x pos') X.env)) (fun _ s' => SP X pins Dn .next s') acc C) hc S hcl hclh hX I2 T st2 f2 hw fun D C s4 m ys H' hn hD hC hDC nD nC hz hfin k => ?_
 show wpAny _ X.A (assign (.Name x pos') X.env (.ref D)) _ _ s4
 have I4:=k s4.heap fun b o _ e => e
 have nCL : C ≠ X.env.locals:=fun z => by have:=I2.lt; rw [<- z] at this; exact absurd this (Nat.not_lt.mpr hC)
 have nCc : ∀ y c,X.env.cells.lookup y = some c -> c ≠ C:=fun y c e z => by
  obtain ⟨v,q⟩:=I2.cell y c e
  have:=q.lt
  rw [z] at this
  exact absurd this (Nat.not_lt.mpr hC)
 refine wpAny_assign_Name (store_ok2 I4 hN hi' hx (show RelV (.ref D) (.ref D) from rfl) (fun s5 I5 ⟨a,sb,ha⟩ => ?_) hf)
 have nCa : C ≠ a:=by
  rcases ha with rfl | ha
  ·
   exact nCL
  ·
   exact fun z => nCc x a ha z.symm
 refine ⟨m,hn.sameBut sb nCa,fun h' hs' => ⟨_,_,Inv.turned (t':=s5.toks) (it:=C) I5 (fun b o hb e => hs'.extBut b o hb e) (by rw [upd_ne hDC]; exact nC) nCL (.inr (Nat.le_trans I2.sz hC)) nCc (fun p hp z => ?_),hfin D nD⟩⟩
 have:=Heap.lt_size (I2.pin p hp).1
 rw [z] at this
 exact absurd this (Nat.not_lt.mpr hC)
end L2
namespace L3
open PySem PySem.Spec PyProof.Rows L2
inductive T where
 | non | bl (b : Bool) | int (i : Int) | str (x : Str) | tup (ts : List T) | ref (a : Addr) | ty (n : String)
mutual
def Rep (K : PySem.W.Frag) (H : Hp) : T -> V -> Prop
 | .non,v => v = .non
 | .bl b,v => v = .bl b
 | .int i,v => v = .int i
 | .str x,v => v = .str x
 | .tup ts,v => ∃ a xs,v = .ref a /\ SqT K H a xs /\ Reps K H ts xs
 | .ref a,v => v = .ref a
 | .ty n,v => v = .ty n
def Reps (K : PySem.W.Frag) (H : Hp) : List T -> List V -> Prop
 | [],xs => xs = []
 | t :: ts,xs => ∃ x r,xs = x :: r /\ Rep K H t x /\ Reps K H ts r
end
def TupLe (K : PySem.W.Frag) (H H' : Hp) : Prop:=∀ a xs,SqT K H a xs -> SqT K H' a xs
theorem TupLe.refl {K : PySem.W.Frag} {H : Hp} : TupLe K H H:=fun _ _ h => h
theorem TupLe.trans {K : PySem.W.Frag} {H H1 H2 : Hp} (a : TupLe K H H1) (b : TupLe K H1 H2) : TupLe K H H2:=fun c xs h => b c xs (a c xs h)
mutual
theorem Rep.mono {K : PySem.W.Frag} {H H' : Hp} (le : TupLe K H H') : ∀ {t : T} {v : V},Rep K H t v -> Rep K H' t v
 | .non,_,h => by simp only [Rep] at h ⊢; exact h
 | .bl _,_,h => by simp only [Rep] at h ⊢; exact h
 | .int _,_,h => by simp only [Rep] at h ⊢; exact h
 | .str _,_,h => by simp only [Rep] at h ⊢; exact h
 | .ref _,_,h => by simp only [Rep] at h ⊢; exact h
 | .ty _,_,h => by simp only [Rep] at h ⊢; exact h
 | .tup ts,_,h => by
  simp only [Rep] at h ⊢
  obtain ⟨a,xs,e,s,r⟩:=h
  exact ⟨a,xs,e,le a xs s,Reps.mono le r⟩
theorem Reps.mono {K : PySem.W.Frag} {H H' : Hp} (le : TupLe K H H') : ∀ {ts : List T} {xs : List V},Reps K H ts xs -> Reps K H' ts xs
 | [],_,h => by simp only [Reps] at h ⊢; exact h
 | t :: ts,_,h => by
  simp only [Reps] at h ⊢
  obtain ⟨x,r,e,a,b⟩:=h
  exact ⟨x,r,e,Rep.mono le a,Reps.mono le b⟩
end
section
variable {K : PySem.W.Frag} {H : Hp}
theorem Reps.nil : Reps K H [] []:=by simp only [Reps]
theorem Reps.cons {t : T} {v : V} {ts : List T} {vs : List V} (a : Rep K H t v) (b : Reps K H ts vs) : Reps K H (t :: ts) (v :: vs):=by simp only [Reps]; exact ⟨v,vs,rfl,a,b⟩
theorem Reps.inv {t : T} {ts : List T} {vs : List V} (h : Reps K H (t :: ts) vs) : ∃ v r,vs = v :: r /\ Rep K H t v /\ Reps K H ts r:=by simp only [Reps] at h; exact h
theorem Reps.inv0 {vs : List V} (h : Reps K H [] vs) : vs = []:=by simp only [Reps] at h; exact h
theorem Reps.length : ∀ {ts : List T} {vs : List V},Reps K H ts vs -> ts.length = vs.length
 | [],_,h => by rw [h.inv0]; rfl
 | t :: ts,_,h => by obtain ⟨v,r,rfl,_,b⟩:=h.inv; simp [Reps.length b]
theorem Reps.get : ∀ {ts : List T} {vs : List V} {i : Nat} {t : T},Reps K H ts vs -> ts[i]? = some t -> ∃ v,vs[i]? = some v /\ Rep K H t v
 | [],_,_,_,_,e => by simp at e
 | a :: ts,_,0,t,h,e => by obtain ⟨v,r,rfl,q,_⟩:=h.inv; simp at e; subst e; exact ⟨v,rfl,q⟩
 | a :: ts,_,i + 1,t,h,e => by obtain ⟨v,r,rfl,_,b⟩:=h.inv; simpa using Reps.get b (by simpa using e)
theorem Reps.get' : ∀ {ts : List T} {vs : List V} {i : Nat} {v : V},Reps K H ts vs -> vs[i]? = some v -> ∃ t,ts[i]? = some t /\ Rep K H t v
 | [],_,_,_,h,e => by rw [h.inv0] at e; simp at e
 | a :: ts,_,0,v,h,e => by obtain ⟨x,r,rfl,q,_⟩:=h.inv; simp at e; subst e; exact ⟨a,rfl,q⟩
 | a :: ts,_,i + 1,v,h,e => by obtain ⟨x,r,rfl,_,b⟩:=h.inv; simpa using Reps.get' b (by simpa using e)
theorem Reps.append : ∀ {ts us : List T} {xs ys : List V},Reps K H ts xs -> Reps K H us ys -> Reps K H (ts ++ us) (xs ++ ys)
 | [],_,_,_,h,h' => by rw [h.inv0]; exact h'
 | t :: ts,_,_,_,h,h' => by obtain ⟨v,r,rfl,a,b⟩:=h.inv; exact .cons a (Reps.append b h')
theorem Reps.take : ∀ {ts : List T} {xs : List V} (n : Nat),Reps K H ts xs -> Reps K H (ts.take n) (xs.take n)
 | [],_,n,h => by rw [h.inv0]; simp only [List.take_nil]; exact .nil
 | t :: ts,_,0,h => .nil
 | t :: ts,_,n + 1,h => by obtain ⟨v,r,rfl,a,b⟩:=h.inv; exact .cons a (Reps.take n b)
theorem Reps.drop : ∀ {ts : List T} {xs : List V} (n : Nat),Reps K H ts xs -> Reps K H (ts.drop n) (xs.drop n)
 | [],_,n,h => by rw [h.inv0]; simp only [List.drop_nil]; exact .nil
 | t :: ts,_,0,h => h
 | t :: ts,_,n + 1,h => by obtain ⟨v,r,rfl,a,b⟩:=h.inv; exact Reps.drop n b
theorem Reps.set : ∀ {ts : List T} {xs : List V} {t : T} {v : V} (n : Nat),Reps K H ts xs -> Rep K H t v -> Reps K H (ts.set n t) (xs.set n v)
 | [],_,_,_,n,h,r => by rw [h.inv0]; exact .nil
 | t :: ts,_,_,_,0,h,q => by obtain ⟨v,r,rfl,a,b⟩:=h.inv; exact .cons q b
 | t :: ts,_,_,_,n + 1,h,q => by obtain ⟨v,r,rfl,a,b⟩:=h.inv; exact .cons a (Reps.set n b q)
theorem Reps.reverse {ts : List T} {xs : List V} (h : Reps K H ts xs) : Reps K H ts.reverse xs.reverse:=by
 induction ts generalizing xs with
 | nil => rw [h.inv0]; exact .nil
 | cons t ts ih => obtain ⟨v,r,rfl,a,b⟩:=h.inv; simp only [List.reverse_cons]; exact (ih b).append (.cons a .nil)
theorem Reps.eraseIdx : ∀ {ts : List T} {xs : List V} (n : Nat),Reps K H ts xs -> Reps K H (ts.eraseIdx n) (xs.eraseIdx n)
 | [],_,n,h => by rw [h.inv0]; exact .nil
 | t :: ts,_,0,h => by obtain ⟨v,r,rfl,a,b⟩:=h.inv; exact b
 | t :: ts,_,n + 1,h => by obtain ⟨v,r,rfl,a,b⟩:=h.inv; exact .cons a (Reps.eraseIdx n b)
theorem Rep.non {v : V} (h : Rep K H .non v) : v = .non:=by simp only [Rep] at h; exact h
theorem Rep.bl {b : Bool} {v : V} (h : Rep K H (.bl b) v) : v = .bl b:=by simp only [Rep] at h; exact h
theorem Rep.int {i : Int} {v : V} (h : Rep K H (.int i) v) : v = .int i:=by simp only [Rep] at h; exact h
theorem Rep.str {x : Str} {v : V} (h : Rep K H (.str x) v) : v = .str x:=by simp only [Rep] at h; exact h
theorem Rep.ref {a : Addr} {v : V} (h : Rep K H (.ref a) v) : v = .ref a:=by simp only [Rep] at h; exact h
theorem Rep.ty {n : String} {v : V} (h : Rep K H (.ty n) v) : v = .ty n:=by simp only [Rep] at h; exact h
theorem Rep.tup {ts : List T} {v : V} (h : Rep K H (.tup ts) v) : ∃ a xs,v = .ref a /\ SqT K H a xs /\ Reps K H ts xs:=by simp only [Rep] at h; exact h
theorem Rep.ofNon : Rep K H .non .non:=by simp only [Rep]
theorem Rep.ofBl {b : Bool} : Rep K H (.bl b) (.bl b):=by simp only [Rep]
theorem Rep.ofInt {i : Int} : Rep K H (.int i) (.int i):=by simp only [Rep]
theorem Rep.ofStr {x : Str} : Rep K H (.str x) (.str x):=by simp only [Rep]
theorem Rep.ofRef {a : Addr} : Rep K H (.ref a) (.ref a):=by simp only [Rep]
theorem Rep.ofTy {n : String} : Rep K H (.ty n) (.ty n):=by simp only [Rep]
theorem Rep.ofTup {ts : List T} {a : Addr} {xs : List V} (h : SqT K H a xs) (r : Reps K H ts xs) : Rep K H (.tup ts) (.ref a):=by simp only [Rep]; exact ⟨a,xs,rfl,h,r⟩
end
inductive O3 where
 | lst (ts : List T) | rol (ts : List T) | dct (kvs : List (Str × T)) | dcp (kvs : List (List Key × T))
abbrev Hp3:=Addr -> Option O3
noncomputable def up3 (H : Hp3) (a : Addr) (o : O3) : Hp3:=fun b => if b = a then some o else H b
theorem up3_same {H : Hp3} {a : Addr} {o : O3} : up3 H a o a = some o:=by unfold up3; rw [if_pos rfl]
theorem up3_ne {H : Hp3} {a b : Addr} {o : O3} (h : b ≠ a) : up3 H a o b = H b:=by unfold up3; rw [if_neg h]
theorem up3_up3 {H : Hp3} {a : Addr} {o u : O3} : up3 (up3 H a o) a u = up3 H a u:=by funext b; unfold up3; split <;> rfl
def RepD (K : PySem.W.Frag) (H : Hp) : List (Str × T) -> List (Key × V) -> Prop:=Paired fun (p : Str × T) (q : Key × V) => q.1 = Sum.inr p.1 /\ Rep K H p.2 q.2
def RepP (K : PySem.W.Frag) (H : Hp) : List (List Key × T) -> List (List Key × V) -> Prop:=Paired fun (p : List Key × T) (q : List Key × V) => q.1 = p.1 /\ Rep K H p.2 q.2
def RepO (K : PySem.W.Frag) (H : Hp) (a : Addr) : O3 -> Prop
 | .lst ts => ∃ xs,H a = some (.lst xs) /\ Reps K H ts xs
 | .rol ts => ∃ xs,Rd H a (.lst xs) /\ Reps K H ts xs
 | .dct kvs => ∃ vs,H a = some (.dK vs) /\ RepD K H kvs vs
 | .dcp kvs => ∃ vs,H a = some (.dT vs) /\ RepP K H kvs vs
def SimH (K : PySem.W.Frag) (H3 : Hp3) (H : Hp) : Prop:=∀ a o,H3 a = some o -> RepO K H a o
abbrev St3:=List (Option T)
structure SimS (K : PySem.W.Frag) (H : Hp) (σ3 : St3) (σ : L2.St) : Prop where
 len : σ3.length = σ.length
 at' : ∀ (i : Nat) (t : T),σ3[i]? = some (some t) -> ∃ v,σ[i]? = some (some v) /\ Rep K H t v
section
variable {K : PySem.W.Frag} {H H' : Hp} {H3 : Hp3} {σ3 : St3} {σ : L2.St}
theorem SimS.mono (s : SimS K H σ3 σ) (le : TupLe K H H') : SimS K H' σ3 σ:=⟨s.len,fun i t e => let ⟨v,e',r⟩:=s.at' i t e; ⟨v,e',r.mono le⟩⟩
theorem SimS.set (s : SimS K H σ3 σ) {i : Nat} {t : T} {v : V} (r : Rep K H t v) : SimS K H (σ3.set i (some t)) (σ.set i (some v)):=by
 refine ⟨by simp [s.len],fun j u e => ?_⟩
 by_cases hj : i = j
 ·
  subst hj
  by_cases hl : i < σ3.length
  ·
   rw [List.getElem?_set_self hl] at e
   have e' : t = u:=Option.some.inj (Option.some.inj e)
   subst e'
   exact ⟨v,by rw [List.getElem?_set_self (by rw [<- s.len]; exact hl)],r⟩
  ·
   rw [List.getElem?_eq_none (by simpa using hl)] at e; cases e
 ·
  rw [List.getElem?_set_ne hj] at e
  rw [List.getElem?_set_ne hj]
  exact s.at' j u e
theorem RepD.mono {kvs : List (Str × T)} {vs : List (Key × V)} (h : RepD K H kvs vs) (le : TupLe K H H') : RepD K H' kvs vs:=Paired.mapP h fun _ _ ⟨a,b⟩ => ⟨a,b.mono le⟩
theorem RepP.mono {kvs : List (List Key × T)} {vs : List (List Key × V)} (h : RepP K H kvs vs) (le : TupLe K H H') : RepP K H' kvs vs:=Paired.mapP h fun _ _ ⟨a,b⟩ => ⟨a,b.mono le⟩
theorem ne3n {a b : Addr} {o : O3} (h : H3 a = some o) (h' : H3 b = none) : a ≠ b:=by
 intro e; subst e; rw [h] at h'; cases h'
theorem upd_tupLe {p : Addr} {o : HO} (hp : H p = none) : TupLe K H (upd H p o):=fun a xs h => by
 rcases h with (h | ⟨ob,h⟩) | h
 ·
  exact .inl (.inl (by rw [upd_ne (ne_of_none h hp)]; exact h))
 ·
  exact .inl (.inr ⟨ob,by rw [upd_ne (ne_of_none h hp)]; exact h⟩)
 ·
  exact .inr h
theorem wr_tupLe {p : Addr} {o : HO} (hp : Mut (H p)) : TupLe K H (upd H p o):=fun a xs h => by
 have key : ∀ u,H a = some u -> ¬ Mut (some u) -> a ≠ p:=fun u e nm z => by subst z; rw [e] at hp; exact nm hp
 rcases h with (h | ⟨ob,h⟩) | h
 ·
  exact .inl (.inl (by rw [upd_ne (key _ h fun z => z)]; exact h))
 ·
  exact .inl (.inr ⟨ob,by rw [upd_ne (key _ h fun z => z)]; exact h⟩)
 ·
  exact .inr h
theorem RepO.stay {a : Addr} {o : O3} (h : RepO K H a o) (le : TupLe K H H') (keep : ∀ u,H a = some u -> H' a = some u) : RepO K H' a o:=by
 cases o with
 | lst ts => obtain ⟨xs,e,r⟩:=h; exact ⟨xs,keep _ e,r.mono le⟩
 | rol ts =>
  obtain ⟨xs,e,r⟩:=h
  refine ⟨xs,?_,r.mono le⟩
  rcases e with e | ⟨ob,e⟩
  ·
   exact .inl (keep _ e)
  ·
   exact .inr ⟨ob,keep _ e⟩
 | dct kvs => obtain ⟨vs,e,r⟩:=h; exact ⟨vs,keep _ e,r.mono le⟩
 | dcp kvs => obtain ⟨vs,e,r⟩:=h; exact ⟨vs,keep _ e,r.mono le⟩
theorem SimH.new {p : Addr} {o : HO} (s : SimH K H3 H) (hp : H p = none) : SimH K H3 (upd H p o):=fun a u e =>
 (s a u e).stay (upd_tupLe hp) fun w q => by rw [upd_ne (ne_of_none q hp)]; exact q
theorem SimH.fresh {p : Addr} (s : SimH K H3 H) (hp : H p = none) : H3 p = none:=by
 cases e : H3 p with
 | none => rfl
 | some o =>
  have q:=s p o e
  cases o with
  | lst ts => obtain ⟨xs,z,_⟩:=q; rw [hp] at z; cases z
  | dct ts => obtain ⟨xs,z,_⟩:=q; rw [hp] at z; cases z
  | dcp ts => obtain ⟨xs,z,_⟩:=q; rw [hp] at z; cases z
  | rol ts =>
   obtain ⟨xs,z,_⟩:=q
   rcases z with z | ⟨ob,z⟩
   ·
    rw [hp] at z; cases z
   ·
    rw [hp] at z; cases z
end
abbrev VK3:=T -> Hp3 -> Prop
abbrev TE3:=St3 -> Hp3 -> VK3 -> Prop
abbrev TT3:=St3 -> Hp3 -> (Bool -> Hp3 -> Prop) -> Prop
abbrev TA3:=St3 -> Hp3 -> (List T -> Hp3 -> Prop) -> Prop
structure Ends3 where
 nx : St3 -> Hp3 -> Prop
 rt : VK3
 bk : St3 -> Hp3 -> Prop:=fun _ _ => False
 ct : St3 -> Hp3 -> Prop:=fun _ _ => False
abbrev TS3:=Ends3 -> St3 -> Hp3 -> Prop
abbrev TG3:=T -> St3 -> Hp3 -> (St3 -> Hp3 -> Prop) -> Prop
abbrev TGs3:=List T -> St3 -> Hp3 -> (St3 -> Hp3 -> Prop) -> Prop
abbrev R3:=T -> T -> Hp3 -> VK3 -> Prop
section
variable (K : PySem.W.Frag)
def KV3 (H : Hp) (Q3 : VK3) (Q : VK) : Prop:=∀ v H' t H3',TupLe K H H' -> SimH K H3' H' -> Rep K H' t v -> Q3 t H3' -> Q v H'
def KS3 (H : Hp) (N3 : St3 -> Hp3 -> Prop) (N : L2.St -> Hp -> Prop) : Prop:=∀ σ' H' σ3' H3',TupLe K H H' -> SimS K H' σ3' σ' -> SimH K H3' H' -> N3 σ3' H3' -> N σ' H'
def lft (t3 : TE3) : TE:=fun σ H Q => ∃ σ3 H3 Q3,SimS K H σ3 σ /\ SimH K H3 H /\ t3 σ3 H3 Q3 /\ KV3 K H Q3 Q
def lftT (t3 : TT3) : TT:=fun σ H Q => ∃ σ3 H3 Q3,SimS K H σ3 σ /\ SimH K H3 H /\ t3 σ3 H3 Q3 /\ ∀ b H' H3',TupLe K H H' -> SimH K H3' H' -> Q3 b H3' -> Q b H'
def lftA (t3 : TA3) : TA:=fun σ H Q => ∃ σ3 H3 Q3,SimS K H σ3 σ /\ SimH K H3 H /\ t3 σ3 H3 Q3 /\ ∀ vs H' ts H3',TupLe K H H' -> SimH K H3' H' -> Reps K H' ts vs -> Q3 ts H3' -> Q vs H'
def lftS (t3 : TS3) : TS:=fun D σ H => ∃ σ3 H3 D3,SimS K H σ3 σ /\ SimH K H3 H /\ t3 D3 σ3 H3 /\ KS3 K H D3.nx D.nx /\ KV3 K H D3.rt D.rt /\ KS3 K H D3.bk D.bk /\ KS3 K H D3.ct D.ct
def lftG (t3 : TG3) : TG:=fun v σ H Q => ∃ t σ3 H3 Q3,Rep K H t v /\ SimS K H σ3 σ /\ SimH K H3 H /\ t3 t σ3 H3 Q3 /\ KS3 K H Q3 Q
def lftGs (t3 : TGs3) : TGs:=fun vs σ H Q => ∃ ts σ3 H3 Q3,Reps K H ts vs /\ SimS K H σ3 σ /\ SimH K H3 H /\ t3 ts σ3 H3 Q3 /\ KS3 K H Q3 Q
def lftR (r3 : R3) : R2:=fun x y H Q => ∃ tx ty H3 Q3,Rep K H tx x /\ Rep K H ty y /\ SimH K H3 H /\ r3 tx ty H3 Q3 /\ KV3 K H Q3 Q
def lftC (r3 : List T -> Hp3 -> VK3 -> Prop) : List V -> Hp -> VK -> Prop:=fun xs H Q => ∃ ts H3 Q3,Reps K H ts xs /\ SimH K H3 H /\ r3 ts H3 Q3 /\ KV3 K H Q3 Q
def lftM (r3 : T -> List T -> Hp3 -> VK3 -> Prop) : V -> List V -> Hp -> VK -> Prop:=fun x xs H Q => ∃ tx ts H3 Q3,Rep K H tx x /\ Reps K H ts xs /\ SimH K H3 H /\ r3 tx ts H3 Q3 /\ KV3 K H Q3 Q
end
section
variable {K : PySem.W.Frag} {H H1 : Hp}
theorem KV3.at {Q3 : VK3} {Q : VK} (k : KV3 K H Q3 Q) (le : TupLe K H H1) : KV3 K H1 Q3 Q:=fun v H' t H3' l => k v H' t H3' (le.trans l)
theorem KS3.at {N3 : St3 -> Hp3 -> Prop} {N : L2.St -> Hp -> Prop} (k : KS3 K H N3 N) (le : TupLe K H H1) : KS3 K H1 N3 N:=fun a b c d l => k a b c d (le.trans l)
end
def PE3 (X : Cx) (e : Expr) (t : TE3) : Prop:=PE X e (lft X.K t)
def PT3 (X : Cx) (e : Expr) (t : TT3) : Prop:=PT X e (lftT X.K t)
def PW3 (X : Cx) (e : Expr) (t : TT3) : Prop:=PW X e (lftT X.K t)
def PA3 (X : Cx) (es : List Expr) (t : TA3) : Prop:=PA X es (lftA X.K t)
def PS3 (X : Cx) (st : Stmt) (t : TS3) : Prop:=PS X st (lftS X.K t)
def PSs3 (X : Cx) (st : List Stmt) (t : TS3) : Prop:=PSs X st (lftS X.K t)
def PG3 (X : Cx) (e : Expr) (t : TG3) : Prop:=PG X e (lftG X.K t)
def PGs3 (X : Cx) (es : List Expr) (t : TGs3) : Prop:=PGs X es (lftGs X.K t)
def OpR3 (X : Cx) (f : Value -> Value -> Sem Value) (r : R3) : Prop:=OpR X f (lftR X.K r)
def CallR3 (X : Cx) (f : Value) (r : List T -> Hp3 -> VK3 -> Prop) : Prop:=CallR X f (lftC X.K r)
def IxR3 (X : Cx) (r : R3) : Prop:=IxR X (lftR X.K r)
def MtR3 (X : Cx) (id : String) (r : T -> List T -> Hp3 -> VK3 -> Prop) : Prop:=MtR X id (lftM X.K r)
theorem PE.imp {X : Cx} {e : Expr} {t t' : TE} (h : PE X e t) (w : ∀ σ H Q,t' σ H Q -> t σ H Q) : PE X e t':=fun pins s σ H Q I q => h pins s σ H Q I (w σ H Q q)
theorem PT.imp {X : Cx} {e : Expr} {t t' : TT} (h : PT X e t) (w : ∀ σ H Q,t' σ H Q -> t σ H Q) : PT X e t':=fun pins s σ H Q I q => h pins s σ H Q I (w σ H Q q)
theorem PW.imp {X : Cx} {e : Expr} {t t' : TT} (h : PW X e t) (w : ∀ σ H Q,t' σ H Q -> t σ H Q) : PW X e t':=fun wh pins s σ H Q I q => h wh pins s σ H Q I (w σ H Q q)
theorem PA.imp {X : Cx} {es : List Expr} {t t' : TA} (h : PA X es t) (w : ∀ σ H Q,t' σ H Q -> t σ H Q) : PA X es t':=fun pos pins s σ H Q I q => h pos pins s σ H Q I (w σ H Q q)
theorem PS.imp {X : Cx} {e : Stmt} {t t' : TS} (h : PS X e t) (w : ∀ D σ H,t' D σ H -> t D σ H) : PS X e t':=fun pins s σ H D I q => h pins s σ H D I (w D σ H q)
theorem PSs.imp {X : Cx} {e : List Stmt} {t t' : TS} (h : PSs X e t) (w : ∀ D σ H,t' D σ H -> t D σ H) : PSs X e t':=fun pins s σ H D I q => h pins s σ H D I (w D σ H q)
theorem PG.imp {X : Cx} {e : Expr} {t t' : TG} (h : PG X e t) (w : ∀ v σ H Q,t' v σ H Q -> t v σ H Q) : PG X e t':=fun pins s σ H v u Q I r q => h pins s σ H v u Q I r (w v σ H Q q)
theorem PGs.imp {X : Cx} {e : List Expr} {t t' : TGs} (h : PGs X e t) (w : ∀ v σ H Q,t' v σ H Q -> t v σ H Q) : PGs X e t':=fun pins s σ H v u Q I r q => h pins s σ H v u Q I r (w v σ H Q q)
theorem OpR.imp {X : Cx} {f : Value -> Value -> Sem Value} {t t' : R2} (h : OpR X f t) (w : ∀ x y H Q,t' x y H Q -> t x y H Q) : OpR X f t':=fun pins s σ H x y v u Q I r1 r2 q => h pins s σ H x y v u Q I r1 r2 (w x y H Q q)
theorem CallR.imp {X : Cx} {f : Value} {t t' : List V -> Hp -> VK -> Prop} (h : CallR X f t) (w : ∀ x H Q,t' x H Q -> t x H Q) : CallR X f t':=fun pins s σ H x v Q I r1 q => h pins s σ H x v Q I r1 (w x H Q q)
theorem IxR.imp {X : Cx} {t t' : R2} (h : IxR X t) (w : ∀ x y H Q,t' x y H Q -> t x y H Q) : IxR X t':=fun a b pins s σ H x y v u Q I r1 r2 q => h a b pins s σ H x y v u Q I r1 r2 (w x y H Q q)
theorem MtR.imp {X : Cx} {id : String} {t t' : V -> List V -> Hp -> VK -> Prop} (h : MtR X id t) (w : ∀ x xs H Q,t' x xs H Q -> t x xs H Q) : MtR X id t':=fun pins s σ H x xs v us Q I r1 r2 q => h pins s σ H x xs v us Q I r1 r2 (w x xs H Q q)
section
variable {X : Cx} {pos : Pos}
def tVar3 (i : Nat) : TE3:=fun σ H Q => match σ[i]? with
 | some (some t) => Q t H
 | _ => False
def tC3 (t : T) : TE3:=fun _ H Q => Q t H
theorem v3 (i : Nat) {x : Str} {pos : Pos} (hN : X.N[i]? = some x:=by rfl) (hv : Vis X.env.scope x:=by first | exact Or.inl rfl | exact Or.inr (Or.inl rfl) | exact Or.inr (Or.inr rfl)) (hd : (x == ("__debug__" : Str)) = false:=by decide)
  (hcd : (x == ("__classdict__" : Str)) = false:=by decide) : PE3 X (.Name x pos) (tVar3 i):=by
 refine PE.imp (pv i hN hv hd hcd) ?_
 rintro σ H Q ⟨σ3,H3,Q3,ss,sh,h,k⟩
 unfold tVar3 at h
 split at h
 ·
  rename_i t e
  obtain ⟨v,e',r⟩:=ss.at' i t e
  exact ⟨v,e',k v H t H3 .refl sh r h⟩
 ·
  exact h.elim
theorem c3_int {i : Int} {j : Nat} : PE3 X (.Constant (.int i) j pos) (tC3 (.int i)):=by
 refine PE.imp pe_int ?_
 rintro σ H Q ⟨σ3,H3,Q3,ss,sh,h,k⟩
 exact k _ _ _ H3 .refl sh .ofInt h
theorem c3_bl {b : Bool} {j : Nat} : PE3 X (.Constant (.bool b) j pos) (tC3 (.bl b)):=by
 refine PE.imp pe_bl ?_
 rintro σ H Q ⟨σ3,H3,Q3,ss,sh,h,k⟩
 exact k _ _ _ H3 .refl sh .ofBl h
theorem c3_str {x : Str} {j : Nat} : PE3 X (.Constant (.str x) j pos) (tC3 (.str x)):=by
 refine PE.imp pe_str ?_
 rintro σ H Q ⟨σ3,H3,Q3,ss,sh,h,k⟩
 exact k _ _ _ H3 .refl sh .ofStr h
theorem g3 {x : Str} {t : T} {v : V} {u : Value} (hg : Gl X x) (hm : X.mg x = some u) (r : RelV v u) (rt : ∀ H,Rep X.K H t v) (hd : (x == ("__debug__" : Str)) = false:=by decide) : PE3 X (.Name x pos) (tC3 t):=by
 refine PE.imp (pe_glob hg hm r hd) ?_
 rintro σ H Q ⟨σ3,H3,Q3,ss,sh,h,k⟩
 exact k _ _ _ H3 .refl sh (rt H) h
end
section
variable {X : Cx} {a b c : Expr} {ta tb tc : TE3} {pos : Pos}
def tOp3 (r : R3) (ta tb : TE3) : TE3:=fun σ H Q => ta σ H fun x H1 => tb σ H1 fun y H2 => r x y H2 Q
theorem o3_refine {r : R3} {σ : L2.St} {H : Hp} {Q : VK} (h : lft X.K (tOp3 r ta tb) σ H Q) : tOp (lftR X.K r) (lft X.K ta) (lft X.K tb) σ H Q:=by
 obtain ⟨σ3,H3,Q3,ss,sh,h,k⟩:=h
 exact ⟨σ3,H3,_,ss,sh,h,fun x H1 tx H31 le1 sh1 rx q1 => ⟨σ3,H31,_,ss.mono le1,sh1,q1,fun y H2 ty H32 le2 sh2 ry q2 => ⟨tx,ty,H32,Q3,rx.mono le2,ry,sh2,q2,k.at (le1.trans le2)⟩⟩⟩
theorem e3_op {op : Operator} {r : R3} (ho : OpR3 X (binaryOp op) r) (ha : PE3 X a ta) (hb : PE3 X b tb) : PE3 X (.BinOp a op b pos) (tOp3 r ta tb):=PE.imp (pe_op ho ha hb) fun _ _ _ h => o3_refine h
theorem e3_cmp {op : CmpOp} {r : R3} (ho : OpR3 X (compareOp op) r) (ha : PE3 X a ta) (hb : PE3 X b tb) (hm : behindInMarks op b = false:=by first | exact nomark _ | rfl) : PE3 X (.Compare a [op] [b] pos) (tOp3 r ta tb):=PE.imp (pe_cmpR ho ha hb hm) fun _ _ _ h => o3_refine h
theorem e3_ix {r : R3} (hr : IxR3 X r) (ha : PE3 X a ta) (hb : PE3 X b tb) (hs : PlainIx b:=by exact fun _ _ => rfl) : PE3 X (.Subscript a b pos) (tOp3 r ta tb):=PE.imp (pe_ix hr ha hb hs) fun _ _ _ h => o3_refine h
def tTest3 (t : TE3) : TT3:=fun σ H Q => t σ H fun x H' => match x with
 | .bl k => Q k H'
 | _ => False
theorem t3_cmp {op : CmpOp} {r : R3} (ho : OpR3 X (compareOp op) r) (ha : PE3 X a ta) (hb : PE3 X b tb) (hm : behindInMarks op b = false:=by first | exact nomark _ | rfl) : PT3 X (.Compare a [op] [b] pos) (tTest3 (tOp3 r ta tb)):=by
 refine PT.imp (pt_cmpR ho ha hb hm) ?_
 rintro σ H Q ⟨σ3,H3,Q3,ss,sh,h,k⟩
 refine o3_refine (X:=X) ⟨σ3,H3,_,ss,sh,h,fun v H' t H3' le sh' r q => ?_⟩
 cases t with
 | bl b => exact ⟨b,r.bl,k b H' H3' le sh' q⟩
 | _ => exact q.elim
def tChain3 (r r' : R3) (ta tb tc : TE3) : TE3:=fun σ H Q => ta σ H fun x H1 => tb σ H1 fun y H2 => r x y H2 fun z H3 => match z with
 | .bl k => if k = true then tc σ H3 fun w H4 => r' y w H4 Q else Q (.bl false) H3
 | _ => False
end
end L3
namespace L3
open PySem PySem.Spec PyProof.Rows L2
section
variable {X : Cx} {a b c : Expr} {ta tb tc : TE3} {tA tB' : TT3} {pos : Pos} {rest : List Expr}
theorem t3_val (h : PE3 X a ta) (he : ∀ whole,isTrue a X.env whole = (do let v <- whole; standAt a.pos; holding [v] (truthy v)):=by intro _; rfl) : PT3 X a (tTest3 ta):=by
 refine PT.imp (pt_val h he) ?_
 rintro σ H Q ⟨σ3,H3,Q3,ss,sh,h,k⟩
 refine ⟨σ3,H3,_,ss,sh,h,fun v H' t H3' le sh' r q => ?_⟩
 cases t with
 | bl b => exact ⟨b,r.bl,k b H' H3' le sh' q⟩
 | _ => exact q.elim
def tAnd3 (t u : TT3) : TT3:=fun σ H Q => t σ H fun c H1 => if c = true then u σ H1 Q else Q false H1
def tOr3 (t u : TT3) : TT3:=fun σ H Q => t σ H fun c H1 => if c = true then Q true H1 else u σ H1 Q
def tNot3 (t : TT3) : TT3:=fun σ H Q => t σ H fun c H1 => Q (!c) H1
theorem PW3.pt (h : PW3 X a tA) : PT3 X a tA:=PW.pt h
theorem w3_and1 (ha : PT3 X a tA) : PW3 X (.BoolOp .And [a] pos) tA:=pw_and1 ha
theorem w3_or1 (ha : PT3 X a tA) : PW3 X (.BoolOp .Or [a] pos) tA:=pw_or1 ha
theorem w3_and (ha : PT3 X a tA) (hb : PW3 X (.BoolOp .And (b :: rest) pos) tB') : PW3 X (.BoolOp .And (a :: b :: rest) pos) (tAnd3 tA tB'):=by
 refine PW.imp (pw_and ha hb) ?_
 rintro σ H Q ⟨σ3,H3,Q3,ss,sh,h,k⟩
 refine ⟨σ3,H3,_,ss,sh,h,fun b H' H3' le sh' q => ?_⟩
 cases b with
 | true => exact ⟨σ3,H3',_,ss.mono le,sh',q,fun b H'' H3'' le' sh'' q' => k b H'' H3'' (le.trans le') sh'' q'⟩
 | false => exact k false H' H3' le sh' q
theorem w3_or (ha : PT3 X a tA) (hb : PW3 X (.BoolOp .Or (b :: rest) pos) tB') : PW3 X (.BoolOp .Or (a :: b :: rest) pos) (tOr3 tA tB'):=by
 refine PW.imp (pw_or ha hb) ?_
 rintro σ H Q ⟨σ3,H3,Q3,ss,sh,h,k⟩
 refine ⟨σ3,H3,_,ss,sh,h,fun b H' H3' le sh' q => ?_⟩
 cases b with
 | true => exact k true H' H3' le sh' q
 | false => exact ⟨σ3,H3',_,ss.mono le,sh',q,fun b H'' H3'' le' sh'' q' => k b H'' H3'' (le.trans le') sh'' q'⟩
theorem t3_not (ha : PT3 X a tA) : PT3 X (.UnaryOp .Not a pos) (tNot3 tA):=by
 refine PT.imp (pt_not ha) ?_
 rintro σ H Q ⟨σ3,H3,Q3,ss,sh,h,k⟩
 exact ⟨σ3,H3,_,ss,sh,h,fun b H' H3' le sh' q => k _ H' H3' le sh' q⟩
def tAndV3 (ta tb : TE3) : TE3:=fun σ H Q => ta σ H fun x H1 => match x with
 | .bl c => if c = true then tb σ H1 Q else Q (.bl false) H1
 | _ => False
def tOrV3 (ta tb : TE3) : TE3:=fun σ H Q => ta σ H fun x H1 => match x with
 | .bl c => if c = true then Q (.bl true) H1 else tb σ H1 Q
 | _ => False
def tNotV3 (ta : TE3) : TE3:=fun σ H Q => ta σ H fun x H1 => match x with
 | .bl c => Q (.bl (!c)) H1
 | _ => False
theorem e3_one {op : PySem.BoolOp} {t : TE3} (h : PE3 X a t) : PE3 X (.BoolOp op [a] pos) t:=pe_one h
theorem e3_or (ha : PE3 X a ta) (hb : PE3 X (.BoolOp .Or (b :: rest) pos) tb) : PE3 X (.BoolOp .Or (a :: b :: rest) pos) (tOrV3 ta tb):=by
 refine PE.imp (pe_or ha hb) ?_
 rintro σ H Q ⟨σ3,H3,Q3,ss,sh,h,k⟩
 refine ⟨σ3,H3,_,ss,sh,h,fun v H' t H3' le sh' r q => ?_⟩
 cases t with
 | bl b =>
  refine ⟨b,r.bl,?_⟩
  cases b with
  | true => exact k _ H' _ H3' le sh' .ofBl q
  | false => exact ⟨σ3,H3',_,ss.mono le,sh',q,k.at le⟩
 | _ => exact q.elim
def tIf3 (t : TT3) (ta tb : TE3) : TE3:=fun σ H Q => t σ H fun c H1 => if c = true then ta σ H1 Q else tb σ H1 Q
end
section
variable {X : Cx} {e : Expr} {es : List Expr} {te : TE3} {t : TA3} {pos : Pos}
def tNil3 : TA3:=fun _ H Q => Q [] H
def tCons3 (ta : TE3) (tr : TA3) : TA3:=fun σ H Q => ta σ H fun x H1 => tr σ H1 fun xs H2 => Q (x :: xs) H2
theorem a3_nil : PA3 X [] tNil3:=by
 refine PA.imp pa_nil ?_
 rintro σ H Q ⟨σ3,H3,Q3,ss,sh,h,k⟩
 exact k _ _ _ _ .refl sh .nil h
theorem a3_cons (ha : PE3 X e te) (hr : PA3 X es t) (hs : starEach (e :: es) X.env = (false,eval e X.env) :: starEach es X.env:=by rfl) : PA3 X (e :: es) (tCons3 te t):=by
 refine PA.imp (pa_cons ha hr hs) ?_
 rintro σ H Q ⟨σ3,H3,Q3,ss,sh,h,k⟩
 exact ⟨σ3,H3,_,ss,sh,h,fun v H' t H3' le sh' r q => ⟨σ3,H3',_,ss.mono le,sh',q,fun vs H'' ts H3'' le' sh'' rs q' => k _ _ _ _ (le.trans le') sh'' (.cons (r.mono le') rs) q'⟩⟩
def tTup3 (t : TA3) : TE3:=fun σ H Q => t σ H fun xs H1 => xs.length <= sizeLine /\ Q (.tup xs) H1
def tLst3 (t : TA3) : TE3:=fun σ H Q => t σ H fun xs H1 => xs.length <= sizeLine /\ ∀ p,H1 p = none -> Q (.ref p) (up3 H1 p (.lst xs))
theorem SimH.newTup {K : PySem.W.Frag} {H : Hp} {H3 : Hp3} {ts : List T} {xs : List V} {p : Addr} (hp : H p = none) (r : Reps K H ts xs) : Rep K (upd H p (.tup xs)) (.tup ts) (.ref p) :=
 .ofTup (.of upd_same) (r.mono (upd_tupLe hp))
theorem SimH.newLst {K : PySem.W.Frag} {H : Hp} {H3 : Hp3} {ts : List T} {xs : List V} {p : Addr} (s : SimH K H3 H) (hp : H p = none) (r : Reps K H ts xs) : SimH K (up3 H3 p (.lst ts)) (upd H p (.lst xs)):=fun a o e => by
 by_cases ha : a = p
 ·
  subst ha
  rw [up3_same] at e; cases e
  exact ⟨xs,upd_same,r.mono (upd_tupLe hp)⟩
 ·
  rw [up3_ne ha] at e
  exact s.new hp a o e
theorem e3_tup {x1} (h : PA3 X es t) : PE3 X (.Tuple es x1 pos) (tTup3 t):=by
 refine PE.imp (pe_tup h) ?_
 rintro σ H Q ⟨σ3,H3,Q3,ss,sh,h,k⟩
 refine ⟨σ3,H3,_,ss,sh,h,fun vs H' ts H3' le sh' r q => ⟨by rw [<- r.length]; exact q.1,fun p hp => ?_⟩⟩
 exact k _ _ _ H3' (le.trans (upd_tupLe hp)) (sh'.new hp) (SimH.newTup (H3:=H3') hp r) q.2
theorem e3_lst (h : PA3 X es t) : PE3 X (.List es pos) (tLst3 t):=by
 refine PE.imp (pe_lst h) ?_
 rintro σ H Q ⟨σ3,H3,Q3,ss,sh,h,k⟩
 refine ⟨σ3,H3,_,ss,sh,h,fun vs H' ts H3' le sh' r q => ⟨by rw [<- r.length]; exact q.1,fun p hp => ?_⟩⟩
 exact k _ _ _ _ (le.trans (upd_tupLe hp)) (sh'.newLst hp r) .ofRef (q.2 p (sh'.fresh hp))
end
section
variable {X : Cx} {st : Stmt} {rest : List Stmt} {e c : Expr} {te : TE3} {tc : TT3} {t u : TS3} {pos : Pos}
def tNext3 : TS3:=fun D σ H => D.nx σ H
def tSeq3 (t u : TS3) : TS3:=fun D σ H => t { D with nx:=u D } σ H
theorem ss3_nil : PSs3 X [] tNext3:=by
 refine PSs.imp pss_nil ?_
 rintro D σ H ⟨σ3,H3,D3,ss,sh,h,k1,_⟩
 exact k1 _ _ _ _ .refl ss sh h
theorem ss3_cons (h1 : PS3 X st t) (h2 : PSs3 X rest u) : PSs3 X (st :: rest) (tSeq3 t u):=by
 refine PSs.imp (pss_cons h1 h2) ?_
 rintro D σ H ⟨σ3,H3,D3,ss,sh,h,k1,k2,k3,k4⟩
 exact ⟨σ3,H3,_,ss,sh,h,fun σ' H' σ3' H3' le ss' sh' q => ⟨σ3',H3',D3,ss',sh',q,k1.at le,k2.at le,k3.at le,k4.at le⟩,k2,k3,k4⟩
theorem ss3_one (h1 : PS3 X st t) : PSs3 X [st] t:=pss_one h1
def tDrop3 (te : TE3) : TS3:=fun D σ H => te σ H fun _ H1 => D.nx σ H1
theorem s3_expr (he : PE3 X e te) (hs : swapsWith e none pos.line X.env = pure false:=by rfl) : PS3 X (.Expr e pos) (tDrop3 te):=by
 refine PS.imp (ps_expr he hs) ?_
 rintro D σ H ⟨σ3,H3,D3,ss,sh,h,k1,_⟩
 exact ⟨σ3,H3,_,ss,sh,h,fun v H' t H3' le sh' r q => k1 _ _ _ _ le (ss.mono le) sh' q⟩
def tRet3 (te : TE3) : TS3:=fun D σ H => te σ H D.rt
theorem s3_ret (he : PE3 X e te) : PS3 X (.Return (some e) pos) (tRet3 te):=by
 refine PS.imp (ps_ret he) ?_
 rintro D σ H ⟨σ3,H3,D3,ss,sh,h,k1,k2,_⟩
 exact ⟨σ3,H3,_,ss,sh,h,k2⟩
def tRetN3 : TS3:=fun D _ H => D.rt .non H
def tIfS3 (c : TT3) (t u : TS3) : TS3:=fun D σ H => c σ H fun b H1 => if b = true then t D σ H1 else u D σ H1
theorem s3_if {a b : List Stmt} (hc : PT3 X c tc) (ha : PSs3 X a t) (hb : PSs3 X b u) : PS3 X (.If c a b pos) (tIfS3 tc t u):=by
 refine PS.imp (ps_if hc ha hb) ?_
 rintro D σ H ⟨σ3,H3,D3,ss,sh,h,k1,k2,k3,k4⟩
 refine ⟨σ3,H3,_,ss,sh,h,fun b H' H3' le sh' q => ?_⟩
 cases b with
 | true => exact ⟨σ3,H3',D3,ss.mono le,sh',q,k1.at le,k2.at le,k3.at le,k4.at le⟩
 | false => exact ⟨σ3,H3',D3,ss.mono le,sh',q,k1.at le,k2.at le,k3.at le,k4.at le⟩
def gName3 (i : Nat) : TG3:=fun v σ H Q => Q (σ.set i (some v)) H
theorem g3_name {i : Nat} {x : Str} (hN : X.N.Nodup) (hi : X.N[i]? = some x:=by rfl) (hx : Loc X.env.scope x:=by first | exact Or.inl rfl | exact Or.inr rfl) (hf : X.fn x = true \/ X.env.scope.names.lookup x = some .local:=by first | exact .inl rfl | exact .inr rfl | assumption) : PG3 X (.Name x pos) (gName3 i):=by
 refine PG.imp (pg_name hN hi hx hf) ?_
 rintro v σ H Q ⟨t,σ3,H3,Q3,r,ss,sh,h,k⟩
 exact k _ _ _ _ .refl (ss.set r) sh h
def gNil3 : TGs3:=fun ts σ H Q => match ts with
 | [] => Q σ H
 | _ => False
def gCons3 (t : TG3) (u : TGs3) : TGs3:=fun ts σ H Q => match ts with
 | x :: r => t x σ H fun σ' H' => u r σ' H' Q
 | [] => False
theorem gs3_nil : PGs3 X [] gNil3:=by
 refine PGs.imp pgs_nil ?_
 rintro vs σ H Q ⟨ts,σ3,H3,Q3,r,ss,sh,h,k⟩
 cases ts with
 | nil => exact ⟨r.inv0,k _ _ _ _ .refl ss sh h⟩
 | cons _ _ => exact h.elim
theorem gs3_cons {e : Expr} {es : List Expr} {t : TG3} {u : TGs3} (h1 : PG3 X e t) (h2 : PGs3 X es u)
  (hs : (assignEach (e :: es) X.env).map (·.2) = assign e X.env :: (assignEach es X.env).map (·.2):=by rfl) : PGs3 X (e :: es) (gCons3 t u):=by
 refine PGs.imp (pgs_cons h1 h2 hs) ?_
 rintro vs σ H Q ⟨ts,σ3,H3,Q3,r,ss,sh,h,k⟩
 cases ts with
 | nil => exact h.elim
 | cons x ts =>
  obtain ⟨v,vr,rfl,rv,rr⟩:=r.inv
  exact ⟨v,vr,rfl,x,σ3,H3,_,rv,ss,sh,h,fun σ' H' σ3' H3' le ss' sh' q => ⟨ts,σ3',H3',Q3,rr.mono le,ss',sh',q,k.at le⟩⟩
def gTup3 (n : Nat) (g : TGs3) : TG3:=fun t σ H Q => match t with
 | .tup ts => ts.length = n /\ g ts σ H Q
 | _ => False
theorem g3_tup {es : List Expr} {k : Nat} {t : TGs3} {n : Nat} (hc : X.calm = true) (h : PGs3 X es t)
  (hn : (assignEach es X.env).length = n:=by rfl) (hst : (assignEach es X.env).findIdx? (·.1) = none:=by rfl) : PG3 X (.Tuple es k pos) (gTup3 n t):=by
 refine PG.imp (pg_tup hc h hn hst) ?_
 rintro v σ H Q ⟨t,σ3,H3,Q3,r,ss,sh,h,k⟩
 cases t with
 | tup ts =>
  obtain ⟨a,xs,rfl,s,rs⟩:=r.tup
  exact ⟨a,xs,rfl,s,by rw [<- rs.length]; exact h.1,ts,σ3,H3,Q3,rs,ss,sh,h.2,k⟩
 | _ => exact h.elim
def tAsg3 (te : TE3) (g : TG3) : TS3:=fun D σ H => te σ H fun x H1 => g x σ H1 D.nx
theorem s3_asg {tg e : Expr} {te : TE3} {g : TG3} (he : PE3 X e te) (hg : PG3 X tg g) (hs : swapsWithSole [tg] e pos.line X.env = pure false:=by rfl) (hw : swappedStores [tg] e X.env = pure none:=by rfl)
  (h1 : (assignEach [tg] X.env).map (·.2) = [assign tg X.env]:=by rfl) : PS3 X (.Assign [tg] e pos) (tAsg3 te g):=by
 refine PS.imp (ps_asg he hg hs hw h1) ?_
 rintro D σ H ⟨σ3,H3,D3,ss,sh,h,k1,_⟩
 exact ⟨σ3,H3,_,ss,sh,h,fun v H' t H3' le sh' r q => ⟨t,σ3,H3',_,r,ss.mono le,sh',q,k1.at le⟩⟩
theorem s3_set {i : Nat} {x : Str} {e : Expr} {te : TE3} {pos' : Pos} (hN : X.N.Nodup) (he : PE3 X e te) (hi : X.N[i]? = some x:=by rfl) (hx : Loc X.env.scope x:=by first | exact Or.inl rfl | exact Or.inr rfl)
  (hs : swapsWith e (some (.Name x pos')) pos.line X.env = pure false:=by rfl) (hf : X.fn x = true \/ X.env.scope.names.lookup x = some .local:=by first | exact .inl rfl | exact .inr rfl | assumption) :
  PS3 X (.Assign [.Name x pos'] e pos) (tAsg3 te (gName3 i)):=by
 refine PS.imp (ps_set hN hi hx he hs hf) ?_
 rintro D σ H ⟨σ3,H3,D3,ss,sh,h,k1,_⟩
 exact ⟨σ3,H3,_,ss,sh,h,fun v H' t H3' le sh' r q => k1 _ _ _ _ le ((ss.mono le).set r) sh' q⟩
end
abbrev TSet3:=T -> T -> T -> Hp3 -> (Hp3 -> Prop) -> Prop
def lftSet (K : PySem.W.Frag) (t3 : TSet3) : TSet:=fun o i v H Q => ∃ to ti tv H3 Q3,Rep K H to o /\ Rep K H ti i /\ Rep K H tv v /\ SimH K H3 H /\ t3 to ti tv H3 Q3 /\ ∀ H' H3',TupLe K H H' -> SimH K H3' H' -> Q3 H3' -> Q H'
def PSet3 (X : Cx) (t : TSet3) : Prop:=PSet X (lftSet X.K t)
theorem PSet.imp {X : Cx} {t t' : TSet} (h : PSet X t) (w : ∀ o i v H Q,t' o i v H Q -> t o i v H Q) : PSet X t':=fun pins s σ H o i v ov iv u Q I r1 r2 r3 q => h pins s σ H o i v ov iv u Q I r1 r2 r3 (w o i v H Q q)
section
variable {X : Cx} {pos : Pos}
def gSub3 (to ti : TE3) (t : TSet3) : TG3:=fun v σ H Q => to σ H fun o H1 => ti σ H1 fun i H2 => t o i v H2 fun H3 => Q σ H3
theorem g3_sub {o i : Expr} {to ti : TE3} {t : TSet3} (ho : PE3 X o to) (hi : PE3 X i ti) (hs : PSet3 X t)
  (ha : ∀ v,assign (.Subscript o i pos) X.env v = (do
   let ov <- holding [v] (eval o X.env)
   let iv <- holding [v,ov] (eval i X.env)
   standAt pos
   holding [v,ov,iv] (setItem ov iv v)
   release [v,ov,iv] []):=by intro _; rfl) : PG3 X (.Subscript o i pos) (gSub3 to ti t):=by
 refine PG.imp (pg_sub ho hi hs ha) ?_
 rintro v σ H Q ⟨t,σ3,H3,Q3,r,ss,sh,h,k⟩
 exact ⟨σ3,H3,_,ss,sh,h,fun o H1 to H31 le1 sh1 ro q1 => ⟨σ3,H31,_,ss.mono le1,sh1,q1,fun i H2 ti H32 le2 sh2 ri q2 => ⟨to,ti,t,H32,_,ro.mono le2,ri,r.mono (le1.trans le2),sh2,q2,fun H' H3' le sh' q => k _ _ _ _ (le1.trans (le2.trans le)) (ss.mono (le1.trans (le2.trans le))) sh' q⟩⟩⟩
end
end L3
namespace L3
open PySem PySem.Spec PyProof.Rows L2
abbrev TI3:=St3 -> Hp3 -> (List T -> (Hp3 -> Prop) -> Hp3 -> Prop) -> Prop
def Walk3 (K : PySem.W.Frag) (J : It) (ts : List T) (still : Hp3 -> Prop) (H : Hp) : Prop:=∀ H' H3',TupLe K H H' -> SimH K H3' H' -> still H3' ->
 (∀ i,ts.length <= i -> J.stop i H') /\ ∀ i t,ts[i]? = some t -> J.go i H' /\ ∀ x H'',J.yld i H' x H'' -> TupLe K H' H'' /\ SimH K H3' H'' /\ Rep K H'' t x
def lftI (K : PySem.W.Frag) (t3 : TI3) : TI:=fun σ H R => ∃ σ3 H3 R3,SimS K H σ3 σ /\ SimH K H3 H /\ t3 σ3 H3 R3 /\ ∀ J ts still H' H3',TupLe K H H' -> SimH K H3' H' -> Walk3 K J ts still H' -> R3 ts still H3' -> R J H'
def PI3 (X : Cx) (tg iter : Expr) (t : TI3) : Prop:=PI X tg iter (lftI X.K t)
theorem PI.imp {X : Cx} {tg e : Expr} {t t' : TI} (h : PI X tg e t) (w : ∀ σ H R,t' σ H R -> t σ H R) : PI X tg e t':=fun pins s σ H R I q => h pins s σ H R I (w σ H R q)
def still0 : Hp3 -> Prop:=fun _ => True
def stillL (a : Addr) (ts : List T) : Hp3 -> Prop:=fun H => H a = some (.lst ts) \/ H a = some (.rol ts)
theorem SimH.sqL {K : PySem.W.Frag} {H : Hp} {H3 : Hp3} {a : Addr} {ts : List T} (s : SimH K H3 H) (h : stillL a ts H3) : ∃ xs,SqL K H a xs /\ Reps K H ts xs:=by
 rcases h with h | h
 ·
  obtain ⟨xs,e,r⟩:=s a _ h
  exact ⟨xs,.of e,r⟩
 ·
  obtain ⟨xs,e,r⟩:=s a _ h
  exact ⟨xs,.inl e,r⟩
section
variable {X : Cx} {tg l : Expr} {tl : TE3} {pos p : Pos}
def iList3 (tl : TE3) : TI3:=fun σ H R => tl σ H fun x H1 => match x with
 | .ref a => match H1 a with
  | some (.lst ts) => R ts (stillL a ts) H1
  | some (.rol ts) => R ts (stillL a ts) H1
  | _ => False
 | _ => False
theorem walk_list {K : PySem.W.Frag} {H : Hp} {a : Addr} {ts : List T} : Walk3 K (Itl K a) ts (stillL a ts) H:=fun H' H3' le sh st => by
 obtain ⟨xs,sq,rs⟩:=sh.sqL st
 have hl:=rs.length
 refine ⟨fun i hi => ⟨xs,sq,by omega⟩,fun i t e => ?_⟩
 obtain ⟨v,ev,rv⟩:=rs.get e
 refine ⟨⟨xs,v,sq,ev⟩,fun x H'' y => ?_⟩
 obtain ⟨e1,y⟩:=y
 subst e1
 have:=y xs sq
 rw [ev] at this; cases this
 exact ⟨.refl,sh,rv⟩
theorem i3_list (hl : PE3 X l tl) : PI3 X tg l (iList3 tl):=by
 refine PI.imp (pi_list hl) ?_
 rintro σ H R ⟨σ3,H3,R3,ss,sh,h,k⟩
 refine ⟨σ3,H3,_,ss,sh,h,fun v H' t H3' le sh' r q => ?_⟩
 cases t with
 | ref a =>
  have q' : (match H3' a with
   | some (.lst ts) => R3 ts (stillL a ts) H3'
   | some (.rol ts) => R3 ts (stillL a ts) H3'
   | _ => False):=q
  split at q'
  ·
   rename_i ts e
   obtain ⟨xs,sq,rs⟩:=sh'.sqL (.inl e)
   exact ⟨a,r.ref,⟨xs,sq⟩,k _ ts (stillL a ts) H' H3' le sh' walk_list q'⟩
  ·
   rename_i ts e
   obtain ⟨xs,sq,rs⟩:=sh'.sqL (.inr e)
   exact ⟨a,r.ref,⟨xs,sq⟩,k _ ts (stillL a ts) H' H3' le sh' walk_list q'⟩
  ·
   exact q'.elim
 | _ => exact q.elim
def iTup3 (tl : TE3) : TI3:=fun σ H R => tl σ H fun x H1 => match x with
 | .tup ts => R ts still0 H1
 | _ => False
theorem walk_tup {K : PySem.W.Frag} {H : Hp} {a : Addr} {ts : List T} {xs : List V} (sq : SqT K H a xs) (rs : Reps K H ts xs) : Walk3 K (Itt K a) ts still0 H:=fun H' H3' le sh st => by
 have hl:=rs.length
 refine ⟨fun i hi => ⟨xs,le _ _ sq,by omega⟩,fun i t e => ?_⟩
 obtain ⟨v,ev,rv⟩:=rs.get e
 refine ⟨⟨xs,v,le _ _ sq,ev⟩,fun x H'' y => ?_⟩
 obtain ⟨e1,y⟩:=y
 subst e1
 have:=y xs (le _ _ sq)
 rw [ev] at this; cases this
 exact ⟨.refl,sh,rv.mono le⟩
theorem i3_tup (hl : PE3 X l tl) : PI3 X tg l (iTup3 tl):=by
 refine PI.imp (pi_tup hl) ?_
 rintro σ H R ⟨σ3,H3,R3,ss,sh,h,k⟩
 refine ⟨σ3,H3,_,ss,sh,h,fun v H' t H3' le sh' r q => ?_⟩
 cases t with
 | tup ts =>
  obtain ⟨a,xs,e,sq,rs⟩:=r.tup
  exact ⟨a,e,⟨xs,sq⟩,k _ ts still0 H' H3' le sh' (walk_tup sq rs) q⟩
 | _ => exact q.elim
noncomputable def rng3 (lo : Int) (n : Nat) : List T:=(List.range n).map fun (i : Nat) => T.int (lo + i)
theorem walk_rng {K : PySem.W.Frag} {H : Hp} {lo : Int} {n : Nat} : Walk3 K (Itr lo n) (rng3 lo n) still0 H:=fun H' H3' le sh st => by
 refine ⟨fun i hi => by unfold rng3 at hi; simp at hi; exact hi,fun i t e => ?_⟩
 unfold rng3 at e
 rw [List.getElem?_map] at e
 by_cases hi : i < n
 ·
  rw [List.getElem?_range hi] at e
  cases e
  refine ⟨hi,fun x H'' y => ?_⟩
  obtain ⟨e1,e2⟩:=y
  subst e1; subst e2
  exact ⟨.refl,sh,.ofInt⟩
 ·
  rw [List.getElem?_eq_none (by simpa using hi)] at e; cases e
def iRng3 (ta : TA3) : TI3:=fun σ H R => ta σ H fun vs H1 => match vs with
 | [.int j] => -(2 ^ 62) <= j /\ j < 2 ^ 62 /\ R (rng3 0 j.toNat) still0 H1
 | [.int i,.int j] => (-(2 ^ 62) <= i /\ i < 2 ^ 62 /\ -(2 ^ 62) <= j /\ j < 2 ^ 62) /\ R (rng3 i (j - i).toNat) still0 H1
 | _ => False
theorem i3_range1 {a : Expr} {ta : TA3} (hg : Gl X "range") (hm : X.mg "range" = none) (ha : PA3 X [a] ta) (hs : starEach [a] X.env = [(false,eval a X.env)]:=by rfl) : PI3 X tg (.Call (.Name "range" p) [a] [] pos) (iRng3 (fun σ H Q => ta σ H fun vs H1 => vs.length = 1 /\ Q vs H1)):=by
 refine PI.imp (pi_range1 hg hm ha hs) ?_
 rintro σ H R ⟨σ3,H3,R3,ss,sh,h,k⟩
 refine ⟨σ3,H3,_,ss,sh,h,fun vs H' ts H3' le sh' r q => ?_⟩
 obtain ⟨hl,q⟩:=q
 cases ts with
 | nil => cases hl
 | cons t ts =>
  cases ts with
  | cons _ _ => simp at hl
  | nil =>
   cases t with
   | int j =>
    obtain ⟨v,_,rfl,rv,r0⟩:=r.inv
    rw [r0.inv0,rv.int]
    exact ⟨j,rfl,q.1,q.2.1,k _ _ _ H' H3' le sh' walk_rng q.2.2⟩
   | _ => exact q.elim
end
def iter3 (g : TG3) (tb : TS3) (D : Ends3) (still : Hp3 -> Prop) : List T -> St3 -> Hp3 -> Prop
 | [],σ,H => still H /\ D.nx σ H
 | t :: r,σ,H => still H /\ g t σ H fun σ2 H2 => tb { D with nx:=iter3 g tb D still r,ct:=iter3 g tb D still r,bk:=D.nx } σ2 H2
theorem iter3.st {g : TG3} {tb : TS3} {D : Ends3} {still : Hp3 -> Prop} {ts : List T} {σ : St3} {H : Hp3} (h : iter3 g tb D still ts σ H) : still H:=by
 cases ts with
 | nil => exact h.1
 | cons t r => exact h.1
def tFor3 (wi : TI3) (g : TG3) (tb : TS3) : TS3:=fun D σ H => wi σ H fun ts still H1 => iter3 g tb D still ts σ H1
section
variable {X : Cx} {tg iter : Expr} {pos : Pos}
theorem s3_for {body : List Stmt} {wi : TI3} {g : TG3} {tb : TS3} (hp : PassesOwn (model X.prog X.w) X.A X.env X.xe) (hc : X.calm = true) (hi : PI3 X tg iter wi) (hg : PG3 X tg g) (hb : PSs3 X body tb)
  (hs : ∀ x,foldedSetIterable iter X.env x = pure x:=by intro _; rfl) : PS3 X (.For tg iter body [] pos) (tFor3 wi g tb):=by
 refine PS.imp (ps_for hp hc hi hg hb hs) ?_
 rintro D σ H ⟨σ3,H3,D3,ss,sh,h,k1,k2,k3,k4⟩
 refine ⟨σ3,H3,_,ss,sh,h,fun J ts still H1 H31 le sh1 wk q => ?_⟩
 refine ⟨fun i m σ H => ∃ σ3 H3,TupLe X.K H1 H /\ SimS X.K H σ3 σ /\ SimH X.K H3 H /\ m = ts.length - i /\ i <= ts.length /\ iter3 g tb D3 still (ts.drop i) σ3 H3,⟨ts.length,σ3,H31,.refl,ss.mono le,sh1,rfl,Nat.zero_le _,by simpa using q⟩,?_⟩
 rintro i m σ H ⟨σ4,H4,le4,ss4,sh4,rfl,hi,it⟩
 have w:=wk H H4 le4 sh4 it.st
 by_cases hlt : i < ts.length
 ·
  have e:=List.getElem?_eq_getElem hlt
  have ed : ts.drop i = ts[i] :: ts.drop (i + 1):=List.drop_eq_getElem_cons hlt
  rw [ed] at it
  obtain ⟨st,it⟩:=it
  obtain ⟨go,yl⟩:=w.2 i _ e
  refine .inr ⟨go,fun σ' H' => ∃ σ3 H3,TupLe X.K H1 H' /\ SimS X.K H' σ3 σ' /\ SimH X.K H3 H' /\ iter3 g tb D3 still (ts.drop (i + 1)) σ3 H3,fun σ' H' ⟨s5,h5,a,b,c,d⟩ => ⟨ts.length - (i + 1),by omega,s5,h5,a,b,c,rfl,hlt,d⟩,fun x H' y => ?_⟩
  obtain ⟨le',sh',rx⟩:=yl x H' y
  refine ⟨ts[i],σ4,H4,_,rx,ss4.mono le',sh',it,fun σ2 H2 σ32 H32 le2 ss2 sh2 q2 => ?_⟩
  have all : TupLe X.K H1 H2:=le4.trans (le'.trans le2)
  have nx : ∀ (B : TupLe X.K H1 H2),KS3 X.K H2 (iter3 g tb D3 still (ts.drop (i + 1))) (fun σ' H' => ∃ σ3 H3,TupLe X.K H1 H' /\ SimS X.K H' σ3 σ' /\ SimH X.K H3 H' /\ iter3 g tb D3 still (ts.drop (i + 1)) σ3 H3) :=
   fun B σ' H' σ3' H3' l s h q => ⟨σ3',H3',B.trans l,s,h,q⟩
  exact ⟨σ32,H32,_,ss2,sh2,q2,nx all,k2.at (le.trans all),k1.at (le.trans all),nx all⟩
 ·
  have e : i = ts.length:=by omega
  subst e
  rw [List.drop_length] at it
  exact .inl ⟨w.1 _ (Nat.le_refl _),k1 _ _ _ _ (le.trans le4) ss4 sh4 it.2⟩
def tWhile3 (c : TT3) (tb : TS3) : TS3:=fun D σ H => ∃ W : Nat -> St3 -> Hp3 -> Prop,(∃ m,W m σ H) /\ ∀ m σ H,W m σ H ->
 c σ H fun b H1 => if b = true then tb { D with nx:=fun σ' H' => ∃ m',m' < m /\ W m' σ' H',ct:=fun σ' H' => ∃ m',m' < m /\ W m' σ' H',bk:=D.nx } σ H1 else D.nx σ H1
theorem s3_while {c : Expr} {body : List Stmt} {tc : TT3} {tb : TS3} (hp : PassesOwn (model X.prog X.w) X.A X.env X.xe) (hc : PT3 X c tc) (hb : PSs3 X body tb) : PS3 X (.While c body [] pos) (tWhile3 tc tb):=by
 refine PS.imp (ps_while hp hc hb) ?_
 rintro D σ H ⟨σ3,H3,D3,ss,sh,⟨W,⟨m0,w0⟩,turn⟩,k1,k2,k3,k4⟩
 refine ⟨fun m σ' H' => ∃ σ3 H3,TupLe X.K H H' /\ SimS X.K H' σ3 σ' /\ SimH X.K H3 H' /\ W m σ3 H3,⟨m0,σ3,H3,.refl,ss,sh,w0⟩,?_⟩
 rintro m σ1 H1 ⟨σ4,H4,le4,ss4,sh4,w4⟩
 refine ⟨σ4,H4,_,ss4,sh4,turn m σ4 H4 w4,fun b H2 H5 le5 sh5 q => ?_⟩
 cases b with
 | true =>
  rw [if_pos rfl] at q ⊢
  have nx : KS3 X.K H2 (fun σ' H' => ∃ m',m' < m /\ W m' σ' H') (fun σ' H' => ∃ m',m' < m /\ ∃ σ3 H3,TupLe X.K H H' /\ SimS X.K H' σ3 σ' /\ SimH X.K H3 H' /\ W m' σ3 H3) :=
   fun σ' H' σ3' H3' l s h ⟨m',hm,w⟩ => ⟨m',hm,σ3',H3',le4.trans (le5.trans l),s,h,w⟩
  exact ⟨_,fun σ' H' h => h,σ4,H5,_,ss4.mono le5,sh5,q,nx,k2.at (le4.trans le5),k1.at (le4.trans le5),nx⟩
 | false =>
  rw [if_neg Bool.false_ne_true] at q ⊢
  exact k1 _ _ _ _ (le4.trans le5) (ss4.mono le5) sh5 q
end
def PIf3 (X : Cx) (ifs : List Expr) (t : TT3) : Prop:=PIf X ifs (lftT X.K t)
def tYes3 : TT3:=fun _ H Q => Q true H
theorem if3_nil {X : Cx} : PIf3 X [] tYes3:=fun pins s σ H Q I ⟨σ3,H3,Q3,ss,sh,h,k⟩ => pif_nil pins s σ H Q I (k _ _ _ .refl sh h)
theorem if3_one {X : Cx} {c : Expr} {t : TT3} (h : PT3 X c t) : PIf3 X [c] t:=pif_one h
noncomputable def cap3 (nt : Nat) (cap : List Nat) (σ : St3) : St3:=List.replicate nt none ++ cap.map fun j => (σ[j]?).getD none
theorem cap_sim {K : PySem.W.Frag} {H : Hp} {σ3 : St3} {σ : L2.St} {nt : Nat} {cap : List Nat} (s : SimS K H σ3 σ) : SimS K H (cap3 nt cap σ3) (capS nt cap σ):=by
 refine ⟨by simp [cap3,capS],fun i t e => ?_⟩
 unfold cap3 at e
 unfold capS
 by_cases hi : i < nt
 ·
  rw [List.getElem?_append_left (by simpa using hi),List.getElem?_replicate] at e
  split at e <;> cases e
 ·
  rw [List.getElem?_append_right (by simpa using hi),List.getElem?_map] at e
  rw [List.getElem?_append_right (by simpa using hi),List.getElem?_map]
  simp only [List.length_replicate] at e ⊢
  cases q : cap[i - nt]? with
  | none => rw [q] at e; cases e
  | some j =>
   rw [q] at e
   have e' : (σ3[j]?).getD none = some t:=Option.some.inj e
   have e2 : σ3[j]? = some (some t):=by
    cases z : σ3[j]? with
    | none => rw [z] at e'; cases e'
    | some y => rw [z] at e'; exact congrArg some e'
   obtain ⟨v,ev,r⟩:=s.at' j t e2
   exact ⟨v,by simp [ev],r⟩
def cIter3 (g : TG3) (tt : TT3) (te : TE3) (still : Hp3 -> Prop) (fin : List T -> Hp3 -> Prop) : List T -> List T -> St3 -> Hp3 -> Prop
 | [],ys,σ,H => still H /\ ys.length <= sizeLine /\ fin ys H
 | t :: r,ys,σ,H => still H /\ g t σ H fun σ2 H2 => tt σ2 H2 fun b H3 => if b = true then te σ2 H3 fun y H4 => ys.length < sizeLine /\ cIter3 g tt te still fin r (ys ++ [y]) σ2 H4 else cIter3 g tt te still fin r ys σ2 H3
theorem cIter3.st {g : TG3} {tt : TT3} {te : TE3} {still : Hp3 -> Prop} {fin : List T -> Hp3 -> Prop} {ts ys : List T} {σ : St3} {H : Hp3} (h : cIter3 g tt te still fin ts ys σ H) : still H:=by
 cases ts with
 | nil => exact h.1
 | cons t r => exact h.1
theorem compW3 {K : PySem.W.Frag} {J : It} {g : TG3} {tt : TT3} {te : TE3} {still : Hp3 -> Prop} {fin3 : List T -> Hp3 -> Prop} {fin : List V -> Hp -> Prop} {ts : List T} {σ3 : St3} {σ : L2.St} {H1 : Hp} {H31 : Hp3}
  (wk : Walk3 K J ts still H1) (ss : SimS K H1 σ3 σ) (sh : SimH K H31 H1) (h : cIter3 g tt te still fin3 ts [] σ3 H31)
  (hf : ∀ ys us H' H3',TupLe K H1 H' -> SimH K H3' H' -> Reps K H' ys us -> fin3 ys H3' -> fin us H') : CompW J (lftG K g) (lftT K tt) (lft K te) fin σ H1:=by
 refine ⟨fun i m us σ H => ∃ σ3 H3 ys,TupLe K H1 H /\ SimS K H σ3 σ /\ SimH K H3 H /\ Reps K H ys us /\ m = ts.length - i /\ i <= ts.length /\ cIter3 g tt te still fin3 (ts.drop i) ys σ3 H3,⟨ts.length,σ3,H31,[],.refl,ss,sh,.nil,rfl,Nat.zero_le _,by simpa using h⟩,?_⟩
 rintro i m us σ H ⟨σ4,H4,ys,le4,ss4,sh4,ry,rfl,hi,it⟩
 have w:=wk H H4 le4 sh4 it.st
 by_cases hlt : i < ts.length
 ·
  have e:=List.getElem?_eq_getElem hlt
  have ed : ts.drop i = ts[i] :: ts.drop (i + 1):=List.drop_eq_getElem_cons hlt
  rw [ed] at it
  obtain ⟨st,it⟩:=it
  obtain ⟨go,yl⟩:=w.2 i _ e
  refine .inr ⟨go,fun x H' y => ?_⟩
  obtain ⟨le',sh',rx⟩:=yl x H' y
  refine ⟨ts[i],σ4,H4,_,rx,ss4.mono le',sh',it,fun σ2 H2 σ32 H32 le2 ss2 sh2 q2 => ?_⟩
  refine ⟨σ32,H32,_,ss2,sh2,q2,fun b H3 H33 le3 sh3 q3 => ?_⟩
  have all : TupLe K H H3:=le'.trans (le2.trans le3)
  cases b with
  | true =>
   rw [if_pos rfl] at q3
   refine iteT ?_
   refine ⟨σ32,H33,_,ss2.mono le3,sh3,q3,fun v H5 t H35 le5 sh5 rt q5 => ⟨by rw [<- ry.length]; exact q5.1,ts.length - (i + 1),by omega,σ32,H35,ys ++ [t],le4.trans (all.trans le5),ss2.mono (le3.trans le5),sh5,(ry.mono (all.trans le5)).append (.cons rt .nil),rfl,hlt,q5.2⟩⟩
  | false =>
   rw [if_neg Bool.false_ne_true] at q3
   refine iteF ?_
   exact ⟨ts.length - (i + 1),by omega,σ32,H33,ys,le4.trans all,ss2.mono le3,sh3,ry.mono all,rfl,hlt,q3⟩
 ·
  have e : i = ts.length:=by omega
  subst e
  rw [List.drop_length] at it
  exact .inl ⟨w.1 _ (Nat.le_refl _),by rw [<- ry.length]; exact it.2.1,hf _ _ _ _ le4 sh4 ry it.2.2⟩
def tComp3 (wi : TI3) (g : TG3) (tt : TT3) (te : TE3) (nt : Nat) (cap : List Nat) : TE3:=fun σ H Q => wi σ H fun ts still H1 => cIter3 g tt te still (fun ys H' => ∀ p,H' p = none -> Q (.ref p) (up3 H' p (.lst ys))) ts [] (cap3 nt cap σ) H1
def tSetComp3 (wi : TI3) (g : TG3) (tt : TT3) (te : TE3) (nt : Nat) (cap : List Nat) (i : Nat) : TS3:=fun D σ H => wi σ H fun ts still H1 => cIter3 g tt te still (fun ys H' => ∀ p,H' p = none -> D.nx (σ.set i (some (.ref p))) (up3 H' p (.lst ys))) ts [] (cap3 nt cap σ) H1
section
variable {X : Cx} {N' : List Str} {nt : Nat} {cap : List Nat} {scope : Scope} {elt tg iter : Expr} {ifs : List Expr} {pos pos' spos : Pos} {wi : TI3} {g : TG3} {tt : TT3} {te : TE3}
theorem e3_comp (hc : X.calm = true) (S : CompSc X N' nt cap scope) (hi : PI3 X tg iter wi)
  (hX : ∀ cl pins s H C fp,PG3 (cxComp X N' scope cl pins s H C fp) tg g /\ PIf3 (cxComp X N' scope cl pins s H C fp) ifs tt /\ PE3 (cxComp X N' scope cl pins s H C fp) elt te)
  (hs : ∀ x,foldedSetIterable iter X.env x = pure x:=by intro _; rfl) : PE3 X (.ListComp elt [⟨tg,iter,ifs,0⟩] scope pos) (tComp3 wi g tt te nt cap):=by
 refine PE.imp (pe_comp (g:=lftG X.K g) (tt:=lftT X.K tt) (te:=lft X.K te) hc S hi hX hs) ?_
 rintro σ H Q ⟨σ3,H3,Q3,ss,sh,h,k⟩
 refine ⟨σ3,H3,_,ss,sh,h,fun J ts still H1 H31 le sh1 wk q => ?_⟩
 exact compW3 wk (cap_sim (ss.mono le)) sh1 q fun ys us H' H3' le' sh' ry q' p hp => k _ _ _ _ (le.trans (le'.trans (upd_tupLe hp))) (sh'.newLst hp ry) .ofRef (q' p (sh'.fresh hp))
theorem s3_setC {i : Nat} {x : Str} (hc : X.calm = true) (hN : X.N.Nodup) (S : CompSc X N' nt cap scope) (hi : PI3 X tg iter wi)
  (hX : ∀ cl pins s H C fp,PG3 (cxComp X N' scope cl pins s H C fp) tg g /\ PIf3 (cxComp X N' scope cl pins s H C fp) ifs tt /\ PE3 (cxComp X N' scope cl pins s H C fp) elt te)
  (hi' : X.N[i]? = some x:=by rfl) (hx : Loc X.env.scope x:=by first | exact Or.inl rfl | exact Or.inr rfl)
  (hsw : swapsWith (.ListComp elt [⟨tg,iter,ifs,0⟩] scope pos) (some (.Name x pos')) spos.line X.env = pure true:=by rfl)
  (hs : ∀ x,foldedSetIterable iter X.env x = pure x:=by intro _; rfl) (hf : X.fn x = true \/ X.env.scope.names.lookup x = some .local:=by first | exact .inl rfl | exact .inr rfl | assumption) :
  PS3 X (.Assign [.Name x pos'] (.ListComp elt [⟨tg,iter,ifs,0⟩] scope pos) spos) (tSetComp3 wi g tt te nt cap i):=by
 refine PS.imp (ps_setC (g:=lftG X.K g) (tt:=lftT X.K tt) (te:=lft X.K te) hc hN hi' hx S hi hX hsw hs hf) ?_
 rintro D σ H ⟨σ3,H3,D3,ss,sh,h,k1,_⟩
 refine ⟨σ3,H3,_,ss,sh,h,fun J ts still H1 H31 le sh1 wk q => ?_⟩
 exact compW3 wk (cap_sim (ss.mono le)) sh1 q fun ys us H' H3' le' sh' ry q' p hp =>
  k1 _ _ _ _ (le.trans (le'.trans (upd_tupLe hp))) ((ss.mono (le.trans (le'.trans (upd_tupLe hp)))).set .ofRef) (sh'.newLst hp ry) (q' p (sh'.fresh hp))
end
abbrev Sp3:=List T -> Hp3 -> VK3 -> Prop
def lftSp (K : PySem.W.Frag) (sp : Sp3) : Sp:=fun vs H Q _ => ∃ ts H3 Q3,Reps K H ts vs /\ SimH K H3 H /\ sp ts H3 Q3 /\ KV3 K H Q3 Q
def Sub3 (H H' : Hp3) : Prop:=∀ a o,H a = some o -> H' a = some o
theorem Sub3.refl {H : Hp3} : Sub3 H H:=fun _ _ h => h
theorem Sub3.trans {H H1 H2 : Hp3} (a : Sub3 H H1) (b : Sub3 H1 H2) : Sub3 H H2:=fun c o h => b c o (a c o h)
theorem Sub3.new {H : Hp3} {p : Addr} {o : O3} (h : H p = none) : Sub3 H (up3 H p o):=fun a u e => by rw [up3_ne (ne3n e h)]; exact e
theorem SimH.sub {K : PySem.W.Frag} {H3 H3' : Hp3} {H : Hp} (s : SimH K H3' H) (h : Sub3 H3 H3') : SimH K H3 H:=fun a o e => s a o (h a o e)
def Fin3 (Q : VK3) : VK3:=fun v H => ∃ H',Sub3 H' H /\ Q v H'
theorem Fin3.of {Q : VK3} {v : T} {H H' : Hp3} (h : Sub3 H' H) (q : Q v H') : Fin3 Q v H:=⟨H',h,q⟩
noncomputable def start3 (N : List Str) (ts : List T) : St3:=ts.map some ++ List.replicate (N.length - ts.length) none
theorem start_sim {K : PySem.W.Frag} {H : Hp} {N : List Str} {ts : List T} {vs : List V} (r : Reps K H ts vs) : SimS K H (start3 N ts) (L2.start N vs):=by
 refine ⟨by simp [start3,L2.start,r.length],fun i t e => ?_⟩
 unfold start3 at e
 unfold L2.start
 have hl:=r.length
 by_cases hi : i < ts.length
 ·
  rw [List.getElem?_append_left (by simpa using hi),List.getElem?_map] at e
  rw [List.getElem?_append_left (by rw [List.length_map]; omega),List.getElem?_map]
  cases q : ts[i]? with
  | none => rw [q] at e; cases e
  | some u =>
   rw [q] at e; cases e
   obtain ⟨v,ev,rv⟩:=r.get q
   exact ⟨v,by rw [ev]; rfl,rv⟩
 ·
  rw [List.getElem?_append_right (by simpa using hi),List.getElem?_replicate] at e
  split at e <;> cases e
section
variable {X : Cx} {k : Nat} {f : Addr} {fd : FuncData} {ps : List Str} {sp : Sp3} {x : Str} {p pos : Pos} {e : Expr} {es : List Expr} {t : TA3}
def FnOk3 (P : Program) (w : World) (K : PySem.W.Frag) (mg : Str -> Option Value) (base : Heap) (k : Nat) (f : Addr) (fd : FuncData) (ps : List Str) (sp : Sp3) : Prop:=FnOk P w K mg base CX0 k f fd ps (lftSp K sp)
theorem FnOk3.mono {P : Program} {w : World} {K : PySem.W.Frag} {mg : Str -> Option Value} {base : Heap} {j k : Nat} (F : FnOk3 P w K mg base j f fd ps sp) (h : j <= k) : FnOk3 P w K mg base k f fd ps sp:=FnOk.mono F h
def tCall3 (sp : Sp3) (t : TA3) : TE3:=fun σ H Q => t σ H fun vs H1 => sp vs H1 Q
theorem e3_call (F : FnOk3 X.prog X.w X.K X.mg X.base k f fd ps sp) (hr : Room k X.A) (hg : Gl X x) (hm : X.mg x = some (.ref f)) (hk : PySem.W.keepIn X.K (.ref f) = true) (hb : Binds X.K fd ps [])
  (ha : PA3 X (e :: es) t) (hdb : (x == ("__debug__" : Str)) = false:=by decide) (he : starEach (e :: es) X.env = (false,eval e X.env) :: starEach es X.env:=by rfl) (hpl : (backTo pos (starEach es X.env)).any (·.1) = false:=by rfl) :
  PE3 X (.Call (.Name x p) (e :: es) [] pos) (tCall3 sp t):=by
 refine PE.imp (pe_call (dvs:=[]) (E:=E0) F hr hg hm hk hb .nil pass0 ha hdb he hpl) ?_
 rintro σ H Q ⟨σ3,H3,Q3,ss,sh,h,k⟩
 refine ⟨σ3,H3,_,ss,sh,h,fun vs H' ts H3' le sh' r q => ?_⟩
 show lftSp X.K sp (vs ++ []) H' Q E0
 rw [List.append_nil]
 exact ⟨ts,H3',Q3,r,sh',q,k.at le⟩
theorem fn3 {P : Program} {w : World} {K : PySem.W.Frag} {mg : Str -> Option Value} {base : Heap} {qual : Str} {st : Stmt} {N : List Str} (F : Fun K x qual st f fd) (S : FnScope N ps (defScope st)) (len : ∀ ts H Q,sp ts H Q -> ts.length = ps.length)
  (hbody : ∀ (cdv : Value) (A : Around) (outer : List Env) (s : Shared) (H : Hp) (E : XK) (ts : List T) (H3 : Hp3) (Q : VK3),Room k (A.deeper (envOfC qual (defScope st) s.heap.objs.size f cdv)) -> sp ts H3 Q ->
   ∃ t,PSs3 (cxOf CX0 P w K mg base N qual (defScope st) f cdv A outer s H E).nox (defBody st) t /\ t { nx:=fun _ H' => Fin3 Q .non H',rt:=Fin3 Q } (start3 N ts) H3) : FnOk3 P w K mg base (k + 1) f fd ps sp:=by
 refine F.ok S (fun vs H Q E ⟨ts,H3,Q3,r,sh,q,k⟩ => by rw [<- r.length]; exact len _ _ _ q) fun cdv A outer s H vs Q E hr ⟨ts,H3,Q3,r,sh,q,k⟩ => ?_
 obtain ⟨t,ht,hq⟩:=hbody cdv A outer s H E ts H3 Q3 hr q
 exact ⟨_,ht,start3 N ts,H3,_,start_sim r,sh,hq,fun σ' H' σ3' H3' le ss' sh' ⟨H4,sb,q⟩ => k _ _ _ _ le (sh'.sub sb) .ofNon q,fun v H' t H3' le sh' rv ⟨H4,sb,q⟩ => k _ _ _ _ le (sh'.sub sb) rv q,fun _ _ _ _ _ _ _ z => z,fun _ _ _ _ _ _ _ z => z⟩
end
end L3
namespace L3
open PySem PySem.Spec PyProof.Rows L2
noncomputable instance : DecidableEq T:=fun a b => Classical.propDecidable (a = b)
noncomputable def pl : Nat -> T -> Bool
 | _,.non => true
 | _,.int _ => true
 | _,.str _ => true
 | d + 1,.tup ts => ts.all (pl d)
 | _,_ => false
section
variable {X : Cx} {pins : List (Addr × Obj)} {σ : L2.St} {H : Hp} {s : Shared}
theorem rep_inj (I : Inv X pins σ H s) : ∀ (d : Nat) (x y : T) (v : V),pl d x = true -> pl d y = true -> Rep X.K H x v -> Rep X.K H y v -> x = y:=by
 intro d
 induction d with
 | zero =>
  intro x y v px py rx ry
  cases x <;> cases y <;> first
   | rfl
   | (simp only [Rep] at rx ry; subst rx; cases ry <;> rfl)
   | (simp [pl] at px; done)
   | (simp [pl] at py; done)
 | succ d ih =>
  intro x y v px py rx ry
  cases x with
  | tup ts =>
   cases y with
   | tup us =>
    obtain ⟨a,xs,rfl,sq,r⟩:=rx.tup
    obtain ⟨b,ys,e,sq',r'⟩:=ry.tup
    cases e
    have:=I.tuple_inj sq sq'
    subst this
    simp only [pl,List.all_eq_true] at px py
    congr 1
    have key : ∀ (ts us : List T) (xs : List V),(∀ t ∈ ts,pl d t = true) -> (∀ t ∈ us,pl d t = true) -> Reps X.K H ts xs -> Reps X.K H us xs -> ts = us:=by
     intro ts
     induction ts with
     | nil =>
      intro us xs _ _ h h'
      rw [h.inv0] at h'
      cases us with
      | nil => rfl
      | cons u us => obtain ⟨_,_,e,_⟩:=h'.inv; cases e
     | cons t ts ih2 =>
      intro us xs p1 p2 h h'
      obtain ⟨v,r,rfl,a,b⟩:=h.inv
      cases us with
      | nil => exact absurd h'.inv0 (by simp)
      | cons u us =>
       obtain ⟨v',r',e,a',b'⟩:=h'.inv
       cases e
       rw [ih t u v (p1 t List.mem_cons_self) (p2 u List.mem_cons_self) a a',ih2 us r (fun t ht => p1 t (List.mem_cons_of_mem _ ht)) (fun t ht => p2 t (List.mem_cons_of_mem _ ht)) b b']
    exact key ts us xs px py r r'
   | _ => first | (simp only [Rep] at rx ry; obtain ⟨a,xs,e,_⟩:=rx; subst e; cases ry; done) | (simp [pl] at py; done)
  | _ => cases y <;> first
   | rfl
   | (simp only [Rep] at rx ry; subst rx; cases ry <;> rfl)
   | (simp [pl] at px; done)
   | (simp [pl] at py; done)
   | (simp only [Rep] at rx ry; obtain ⟨a,xs,e,_⟩:=ry; subst e; cases rx; done)
theorem units_in1 (A : Around) : A.in1.units = A.units + 1:=by rfl
theorem all_eq_dec {α : Type} [DecidableEq (Option α)] (ts us : List α) : ((List.range (min ts.length us.length)).all (fun j => decide (ts[j]? = us[j]?)) && ts.length == us.length) = true ↔ ts = us:=by
 rw [Bool.and_eq_true,List.all_eq_true,beq_iff_eq]
 constructor
 ·
  rintro ⟨h,hl⟩
  refine List.ext_getElem? fun i => ?_
  by_cases hi : i < ts.length
  ·
   exact of_decide_eq_true (h i (List.mem_range.mpr (by omega)))
  ·
   rw [List.getElem?_eq_none (by omega),List.getElem?_eq_none (by omega)]
 ·
  rintro rfl
  exact ⟨fun i _ => by simp,rfl⟩
theorem vget {us : List Value} {i : Nat} (h : i < us.toArray.size) {v : Value} (e : us[i]? = some v) : us.toArray[i] = v:=by
 have : us.toArray[i]? = some v:=by simpa using e
 rw [Array.getElem?_eq_getElem h] at this
 exact Option.some.inj this
theorem eq_tree (I : Inv X pins σ H s) : ∀ (d : Nat) (A : Around) (x y : T) (vx vy : V) (u v : Value),pl d x = true -> pl d y = true -> Rep X.K H x vx -> Rep X.K H y vy -> RelV vx u -> RelV vy v -> A.units + d < cLine -> SeqAt.EqAt A s u v (decide (x = y)):=by
 have scal : ∀ (A : Around) (x y : T) (vx vy : V) (u v : Value),pl 0 x = true -> pl 0 y = true -> Rep X.K H x vx -> Rep X.K H y vy -> RelV vx u -> RelV vy v -> SeqAt.EqAt A s u v (decide (x = y)):=by
  intro A x y vx vy u v px py rx ry ru rv
  cases x with
  | non =>
   cases rx.non; cases ru
   cases y with
   | non => cases ry.non; cases rv; simp only [decide_true]; exact SeqAt.EqAt.same _
   | int j => cases ry.int; obtain ⟨t',rfl⟩:=rv; rw [decide_eq_false (by simp)]; exact SeqAt.EqAt.none_int _ _
   | str j => cases ry.str; obtain ⟨t',rfl⟩:=rv; rw [decide_eq_false (by simp)]; exact SeqAt.EqAt.none_str _ _
   | _ => simp [pl] at py
  | int i =>
   cases rx.int; obtain ⟨t,rfl⟩:=ru
   cases y with
   | non => cases ry.non; cases rv; rw [decide_eq_false (by simp)]; exact SeqAt.EqAt.int_none _ _
   | int j =>
    cases ry.int; obtain ⟨t',rfl⟩:=rv
    rw [show decide (T.int i = T.int j) = (i == j) by by_cases h : i = j <;> simp [h]]
    exact SeqAt.EqAt.int_int _ _ _ _
   | str j => cases ry.str; obtain ⟨t',rfl⟩:=rv; rw [decide_eq_false (by simp)]; exact SeqAt.EqAt.int_str _ _ _ _
   | _ => simp [pl] at py
  | str i =>
   cases rx.str; obtain ⟨t,rfl⟩:=ru
   cases y with
   | non => cases ry.non; cases rv; rw [decide_eq_false (by simp)]; exact SeqAt.EqAt.str_none _ _
   | int j => cases ry.int; obtain ⟨t',rfl⟩:=rv; rw [decide_eq_false (by simp)]; exact SeqAt.EqAt.str_int _ _ _ _
   | str j =>
    cases ry.str; obtain ⟨t',rfl⟩:=rv
    rw [show decide (T.str i = T.str j) = (i == j) by by_cases h : i = j <;> simp [h]]
    exact SeqAt.EqAt.str_str _ _ _ _
   | _ => simp [pl] at py
  | _ => simp [pl] at px
 intro d
 induction d with
 | zero => intro A x y vx vy u v px py rx ry ru rv _; exact scal A x y vx vy u v px py rx ry ru rv
 | succ d ih =>
  intro A x y vx vy u v px py rx ry ru rv hu
  have hu0 : A.units < cLine:=by omega
  cases x with
  | tup ts =>
   obtain ⟨a,xs,rfl,sq,r⟩:=rx.tup
   cases ru
   obtain ⟨its,rv1,ht,_⟩:=I.tuple sq
   cases y with
   | tup us =>
    obtain ⟨b,ys,rfl,sq',r'⟩:=ry.tup
    cases rv
    obtain ⟨its',rv2,ht',_⟩:=I.tuple sq'
    by_cases hab : a = b
    ·
     subst hab
     have e : T.tup ts = T.tup us:=rep_inj I (d + 1) _ _ (.ref a) px py (.ofTup sq r) (.ofTup sq' r')
     rw [e,decide_eq_true rfl]
     exact SeqAt.EqAt.same _
    ·
     have l1:=r.length
     have l2:=r'.length
     have l3:=rv1.length
     have l4:=rv2.length
     have key:=SeqAt.RcAt.tuples (A:=A) (s:=s) (e:=fun j => decide (ts[j]? = us[j]?)) (show s.heap.IsTuple a its.toArray from ht) (show s.heap.IsTuple b its'.toArray from ht') hu0 (fun j h1 h2 => by
      rw [List.size_toArray] at h1 h2
      have g1 : j < ts.length:=by omega
      have g2 : j < us.length:=by omega
      obtain ⟨p1,e1,q1⟩:=r.get (List.getElem?_eq_getElem g1)
      obtain ⟨p2,e2,q2⟩:=r'.get (List.getElem?_eq_getElem g2)
      obtain ⟨z1,f1,w1⟩:=rv1.get e1
      obtain ⟨z2,f2,w2⟩:=rv2.get e2
      rw [vget _ f1,vget _ f2,List.getElem?_eq_getElem g1,List.getElem?_eq_getElem g2]
      simp only [pl,List.all_eq_true] at px py
      have:=ih A.in1 ts[j] us[j] p1 p2 z1 z2 (px _ (List.getElem_mem g1)) (py _ (List.getElem_mem g2)) q1 q2 w1 w2 (by rw [units_in1]; omega)
      rw [show decide (some ts[j] = some us[j]) = decide (ts[j] = us[j]) by by_cases h : ts[j] = us[j] <;> simp [h]]
      exact this)
     have eb : ((List.range (min its.toArray.size its'.toArray.size)).all (fun j => decide (ts[j]? = us[j]?)) && its.toArray.size == its'.toArray.size) = decide (T.tup ts = T.tup us):=by
      rw [List.size_toArray,List.size_toArray,<- l3,<- l1,<- l4,<- l2,Bool.eq_iff_iff,all_eq_dec,decide_eq_true_iff]
      constructor
      ·
       rintro rfl; rfl
      ·
       intro h; injection h
     rw [eb] at key
     exact .of_refs hab key
   | non => cases ry.non; cases rv; rw [decide_eq_false (by simp)]; exact SeqAt.EqAt.tuple_none ht hu0
   | int j => cases ry.int; obtain ⟨t',rfl⟩:=rv; rw [decide_eq_false (by simp)]; exact SeqAt.EqAt.tuple_int _ _ ht hu0
   | str j => cases ry.str; obtain ⟨t',rfl⟩:=rv; rw [decide_eq_false (by simp)]; exact SeqAt.EqAt.tuple_str _ _ ht hu0
   | _ => simp [pl] at py
  | non =>
   cases y with
   | tup us =>
    obtain ⟨b,ys,rfl,sq',r'⟩:=ry.tup
    cases rv
    obtain ⟨its',rv2,ht',_⟩:=I.tuple sq'
    cases rx.non; cases ru; rw [decide_eq_false (by simp)]; exact SeqAt.EqAt.none_tuple ht' hu0
   | non => exact scal A _ _ vx vy u v rfl rfl rx ry ru rv
   | int j => exact scal A _ _ vx vy u v rfl rfl rx ry ru rv
   | str j => exact scal A _ _ vx vy u v rfl rfl rx ry ru rv
   | _ => simp [pl] at py
  | int i =>
   cases y with
   | tup us =>
    obtain ⟨b,ys,rfl,sq',r'⟩:=ry.tup
    cases rv
    obtain ⟨its',rv2,ht',_⟩:=I.tuple sq'
    cases rx.int; obtain ⟨t,rfl⟩:=ru; rw [decide_eq_false (by simp)]; exact SeqAt.EqAt.int_tuple _ _ ht' hu0
   | non => exact scal A _ _ vx vy u v rfl rfl rx ry ru rv
   | int j => exact scal A _ _ vx vy u v rfl rfl rx ry ru rv
   | str j => exact scal A _ _ vx vy u v rfl rfl rx ry ru rv
   | _ => simp [pl] at py
  | str i =>
   cases y with
   | tup us =>
    obtain ⟨b,ys,rfl,sq',r'⟩:=ry.tup
    cases rv
    obtain ⟨its',rv2,ht',_⟩:=I.tuple sq'
    cases rx.str; obtain ⟨t,rfl⟩:=ru; rw [decide_eq_false (by simp)]; exact SeqAt.EqAt.str_tuple _ _ ht' hu0
   | non => exact scal A _ _ vx vy u v rfl rfl rx ry ru rv
   | int j => exact scal A _ _ vx vy u v rfl rfl rx ry ru rv
   | str j => exact scal A _ _ vx vy u v rfl rfl rx ry ru rv
   | _ => simp [pl] at py
  | _ => simp [pl] at px
end
end L3
namespace L3
open PySem PySem.Spec PyProof.Rows L2
def rI3 (C : Int -> Int -> Prop) (g : Int -> Int -> T) : R3:=fun x y H Q => match x,y with
 | .int i,.int j => C i j /\ Q (g i j) H
 | _,_ => False
def rI03 (g : Int -> Int -> T) : R3:=fun x y H Q => match x,y with
 | .int i,.int j => Q (g i j) H
 | _,_ => False
section
variable {X : Cx}
theorem o3_I {f : Value -> Value -> Sem Value} {C : Int -> Int -> Prop} {g : Int -> Int -> T} {g' : Int -> Int -> V} (h : OpR X f (rI C g')) (hg : ∀ i j H,Rep X.K H (g i j) (g' i j)) : OpR3 X f (rI3 C g):=by
 refine OpR.imp h ?_
 rintro x y H Q ⟨tx,ty,H3,Q3,rx,ry,sh,h,k⟩
 cases tx with
 | int i =>
  cases ty with
  | int j => exact ⟨i,j,rx.int,ry.int,h.1,k _ _ _ _ .refl sh (hg i j H) h.2⟩
  | _ => exact h.elim
 | _ => exact h.elim
theorem o3_I0 {f : Value -> Value -> Sem Value} {g : Int -> Int -> T} {g' : Int -> Int -> V} (h : OpR X f (rI0 g')) (hg : ∀ i j H,Rep X.K H (g i j) (g' i j)) : OpR3 X f (rI03 g):=by
 refine OpR.imp h ?_
 rintro x y H Q ⟨tx,ty,H3,Q3,rx,ry,sh,h,k⟩
 cases tx with
 | int i =>
  cases ty with
  | int j => exact ⟨i,j,rx.int,ry.int,k _ _ _ _ .refl sh (hg i j H) h⟩
  | _ => exact h.elim
 | _ => exact h.elim
def CDiv3 (_ j : Int) : Prop:=0 < j /\ j.natAbs.log2 < 9000
theorem op_fdivL : OpR X (binaryOp .FloorDiv) (rI CDiv3 fun i j => .int (i / j)):=opI fun i j _ _ _ _ _ hc q => by
 have e : i / j = i.fdiv j:=(Int.fdiv_eq_ediv_of_nonneg i (Int.le_of_lt hc.1)).symm
 rw [e] at q
 exact floordiv_int (Int.ne_of_gt hc.1) q (.inl (PyProof.noPylong_of_log2 hc.2))
theorem o3_sub : OpR3 X (binaryOp .Sub) (rI03 fun i j => .int (i - j)):=o3_I0 op_sub fun _ _ _ => .ofInt
theorem o3_fdiv : OpR3 X (binaryOp .FloorDiv) (rI3 CDiv3 fun i j => .int (i / j)):=o3_I op_fdivL fun _ _ _ => .ofInt
theorem o3_mod : OpR3 X (binaryOp .Mod) (rI3 (fun _ j => 0 < j) fun i j => .int (i % j)):=o3_I op_mod fun _ _ _ => .ofInt
theorem o3_pow : OpR3 X (binaryOp .Pow) (rI3 CPow fun i j => .int (i ^ j.toNat)):=o3_I op_pow fun _ _ _ => .ofInt
theorem o3_lt : OpR3 X (compareOp .Lt) (rI03 fun i j => .bl (decide (i < j))):=o3_I0 op_lt fun _ _ _ => .ofBl
theorem o3_gt : OpR3 X (compareOp .Gt) (rI03 fun i j => .bl (decide (j < i))):=o3_I0 op_gt fun _ _ _ => .ofBl
theorem o3_mul : OpR3 X (binaryOp .Mult) (rI3 CMul fun i j => .int (i * j)):=o3_I op_mul fun _ _ _ => .ofInt
def rAdd3 : R3:=fun x y H Q => match x,y with
 | .int i,.int j => Q (.int (i + j)) H
 | .str i,.str j => i.length + j.length <= sizeLine /\ Q (.str (i ++ j)) H
 | .ref a,.ref b => match H a,H b with
  | some (.lst xs),some (.lst ys) => xs.length + ys.length <= sizeLine /\ ∀ p,H p = none -> Q (.ref p) (up3 H p (.lst (xs ++ ys)))
  | _,_ => False
 | .tup xs,.tup ys => xs.length + ys.length <= sizeLine /\ Q (.tup (xs ++ ys)) H
 | _,_ => False
theorem op_catT0 : OpR X (binaryOp .Add) (fun x y H Q => ∃ a b ys,x = .ref a /\ y = .ref b /\ SqT X.K H a [] /\ SqT X.K H b ys /\ Q (.ref b) H):=by
 intro pins s σ H x y v u Q I rx ry h
 obtain ⟨a,b,ys,rfl,rfl,ha,hb,q⟩:=h
 cases rx
 cases ry
 obtain ⟨its,r1,p1,_⟩:=I.tuple ha
 obtain ⟨its2,r2,p2,_⟩:=I.tuple hb
 cases r1
 obtain ⟨⟨cls,dd,data,sl⟩,ho,hc,n,hd⟩:=id p1
 obtain ⟨⟨cls2,dd2,data2,sl2⟩,ho2,hc2,n2,hd2⟩:=id p2
 simp only at hc hd hc2 hd2
 subst hc hd hc2 hd2
 exact concat_meets ⟨_,ho,rfl⟩ ⟨_,ho2,rfl⟩ noFill_tuple_add seq_tuple_add PySem.F.slot_tuple_add PySem.F.entry_tuple_add (PySem.F.args_tuple_add_2 _ _)
   (tuple_addW0 a b _ its2.toArray n n2 dd dd2 sl sl2 (by simp)) ⟨ho,ho2,⟨.ref b,H,I,rfl,q⟩⟩
theorem o3_add : OpR3 X (binaryOp .Add) rAdd3:=by
 refine OpR.imp (op_add.or (op_add_str.or (op_cat.or (op_catT.or op_catT0)))) ?_
 rintro x y H Q ⟨tx,ty,H3,Q3,rx,ry,sh,h,k⟩
 cases tx with
 | int i =>
  cases ty with
  | int j => exact .inl ⟨i,j,rx.int,ry.int,k _ _ _ _ .refl sh .ofInt h⟩
  | _ => exact h.elim
 | str i =>
  cases ty with
  | str j => exact .inr (.inl ⟨i,j,rx.str,ry.str,h.1,k _ _ _ _ .refl sh .ofStr h.2⟩)
  | _ => exact h.elim
 | ref a =>
  cases ty with
  | ref b =>
   have h' : (match H3 a,H3 b with
    | some (.lst xs),some (.lst ys) => xs.length + ys.length <= sizeLine /\ ∀ p,H3 p = none -> Q3 (.ref p) (up3 H3 p (.lst (xs ++ ys)))
    | _,_ => False):=h
   split at h'
   ·
    rename_i xs ys e1 e2
    obtain ⟨vs,g1,r1⟩:=sh a _ e1
    obtain ⟨ws,g2,r2⟩:=sh b _ e2
    refine .inr (.inr (.inl ⟨a,b,vs,ws,rx.ref,ry.ref,g1,g2,by rw [<- r1.length,<- r2.length]; exact h'.1,fun p hp => ?_⟩))
    exact k _ _ _ _ (upd_tupLe hp) (sh.newLst hp (r1.append r2)) .ofRef (h'.2 p (sh.fresh hp))
   ·
    exact h'.elim
  | _ => exact h.elim
 | tup xs =>
  cases ty with
  | tup ys =>
   obtain ⟨a,vs,rfl,s1,r1⟩:=rx.tup
   obtain ⟨b,ws,rfl,s2,r2⟩:=ry.tup
   by_cases hv : vs = []
   ·
    subst hv
    have e0 : xs = []:=List.eq_nil_of_length_eq_zero r1.length
    subst e0
    exact .inr (.inr (.inr (.inr ⟨a,b,ws,rfl,rfl,s1,s2,k _ _ _ _ .refl sh (.ofTup s2 r2) h.2⟩)))
   refine .inr (.inr (.inr (.inl ⟨a,b,vs,ws,rfl,rfl,s1,s2,hv,by rw [<- r1.length,<- r2.length]; exact h.1,fun hw => ?_,fun hw p hp => ?_⟩)))
   ·
    have e : ys = []:=by have:=r2.length; rw [hw] at this; exact List.eq_nil_of_length_eq_zero this
    have q:=h.2
    rw [e,List.append_nil] at q
    exact k _ _ _ _ .refl sh (.ofTup s1 r1) q
   ·
    exact k _ _ _ _ (upd_tupLe hp) (sh.new hp) (SimH.newTup (H3:=H3) hp (r1.append r2)) h.2
  | _ => exact h.elim
 | _ => exact h.elim
end
section
variable {X : Cx} {pins : List (Addr × Obj)} {σ : L2.St} {H : Hp} {s : Shared}
def r3Eq (neg : Bool) : R3:=fun x y H Q => match x,y with
 | .int i,.int j => Q (.bl (if neg then !decide (i = j) else decide (i = j))) H
 | .str i,.str j => Q (.bl (if neg then !decide (i = j) else decide (i = j))) H
 | .bl i,.bl j => Q (.bl (if neg then !decide (i = j) else decide (i = j))) H
 | .non,.non => Q (.bl (if neg then false else true)) H
 | .tup xs,.tup ys => xs.all (pl 20) = true /\ ys.all (pl 20) = true /\ Q (.bl (if neg then !decide (xs = ys) else decide (xs = ys))) H
 | .ref a,.ref b => match H a,H b with
  | some (.lst xs),some (.lst ys) => a ≠ b /\ xs.all (pl 20) = true /\ ys.all (pl 20) = true /\ Q (.bl (if neg then !decide (xs = ys) else decide (xs = ys))) H
  | _,_ => False
 | _,_ => False
theorem items_eq (I : Inv X pins σ H s) {ts us : List T} {xs ys : List V} {its its' : List Value} {A : Around} (hu : A.units + 30 < cLine) (px : ts.all (pl 20) = true) (py : us.all (pl 20) = true) (r : Reps X.K H ts xs) (r' : Reps X.K H us ys) (rv1 : Vals xs its) (rv2 : Vals ys its') :
  ∀ j (h1 : j < its.toArray.size) (h2 : j < its'.toArray.size),SeqAt.EqAt A.in1 s its.toArray[j] its'.toArray[j] (decide (ts[j]? = us[j]?)):=fun j h1 h2 => by
 have l1:=r.length
 have l2:=r'.length
 have l3:=rv1.length
 have l4:=rv2.length
 rw [List.size_toArray] at h1 h2
 have g1 : j < ts.length:=by omega
 have g2 : j < us.length:=by omega
 obtain ⟨p1,e1,q1⟩:=r.get (List.getElem?_eq_getElem g1)
 obtain ⟨p2,e2,q2⟩:=r'.get (List.getElem?_eq_getElem g2)
 obtain ⟨z1,f1,w1⟩:=rv1.get e1
 obtain ⟨z2,f2,w2⟩:=rv2.get e2
 rw [vget _ f1,vget _ f2,List.getElem?_eq_getElem g1,List.getElem?_eq_getElem g2]
 rw [List.all_eq_true] at px py
 have:=eq_tree I 20 A.in1 ts[j] us[j] p1 p2 z1 z2 (px _ (List.getElem_mem g1)) (py _ (List.getElem_mem g2)) q1 q2 w1 w2 (by rw [units_in1]; omega)
 rw [show decide (some ts[j] = some us[j]) = decide (ts[j] = us[j]) by by_cases h : ts[j] = us[j] <;> simp [h]]
 exact this
theorem rows_dec {ts us : List T} : ((List.range (min ts.length us.length)).all (fun j => decide (ts[j]? = us[j]?)) && ts.length == us.length) = decide (ts = us):=by
 rw [Bool.eq_iff_iff,all_eq_dec,decide_eq_true_iff]
theorem o3_eq (hu : X.A.units + 30 < cLine) : OpR3 X (compareOp .Eq) (r3Eq false):=by
 intro pins s σ H x y v u Q I rv ru h
 obtain ⟨tx,ty,H3,Q3,rx,ry,sh,h,k⟩:=h
 have sc : ∀ {x y : V},scal x y = true -> RelV x v -> RelV y u -> (k : Q (.bl (decide (x = y))) H) -> wpAny (model X.prog X.w) X.A (compareOp .Eq v u) (EP X pins σ Q) X.xe s:=fun {x y} a r1 r2 q => op_eq pins s σ H x y v u Q I r1 r2 ⟨a,q⟩
 cases tx with
 | int i =>
  cases ty with
  | int j =>
   rw [rx.int] at rv; rw [ry.int] at ru
   exact sc rfl rv ru (k _ _ _ _ .refl sh (by rw [show decide (V.int i = V.int j) = decide (i = j) by by_cases e : i = j <;> simp [e]]; exact .ofBl) h)
  | _ => exact h.elim
 | str i =>
  cases ty with
  | str j =>
   rw [rx.str] at rv; rw [ry.str] at ru
   exact sc rfl rv ru (k _ _ _ _ .refl sh (by rw [show decide (V.str i = V.str j) = decide (i = j) by by_cases e : i = j <;> simp [e]]; exact .ofBl) h)
  | _ => exact h.elim
 | bl i =>
  cases ty with
  | bl j =>
   rw [rx.bl] at rv; rw [ry.bl] at ru
   exact sc rfl rv ru (k _ _ _ _ .refl sh (by rw [show decide (V.bl i = V.bl j) = decide (i = j) by by_cases e : i = j <;> simp [e]]; exact .ofBl) h)
  | _ => exact h.elim
 | non =>
  cases ty with
  | non =>
   rw [rx.non] at rv; rw [ry.non] at ru
   exact sc rfl rv ru (k _ _ _ _ .refl sh (by rw [show decide (V.non = V.non) = true by simp]; exact .ofBl) h)
  | _ => exact h.elim
 | tup ts =>
  cases ty with
  | tup us =>
   obtain ⟨a,xs,rfl,sq,r⟩:=rx.tup
   obtain ⟨b,ys,rfl,sq',r'⟩:=ry.tup
   cases rv; cases ru
   obtain ⟨its,rv1,ht,_⟩:=I.tuple sq
   obtain ⟨its',rv2,ht',_⟩:=I.tuple sq'
   refine SeqAt.eq_tupleAt (e:=fun j => decide (ts[j]? = us[j]?)) ht ht' (by omega) (items_eq I hu h.1 h.2.1 r r' rv1 rv2) ⟨.bl _,H,I,rfl,?_⟩
   rw [List.size_toArray,List.size_toArray,<- rv1.length,<- rv2.length,<- r.length,<- r'.length,rows_dec]
   exact k _ _ _ _ .refl sh .ofBl h.2.2
  | _ => exact h.elim
 | ref a =>
  cases ty with
  | ref b =>
   have h' : (match H3 a,H3 b with
    | some (.lst xs),some (.lst ys) => a ≠ b /\ xs.all (pl 20) = true /\ ys.all (pl 20) = true /\ Q3 (.bl (decide (xs = ys))) H3
    | _,_ => False):=h
   split at h'
   ·
    rename_i ts us e1 e2
    obtain ⟨xs,g1,r⟩:=sh a _ e1
    obtain ⟨ys,g2,r'⟩:=sh b _ e2
    cases rx.ref; cases ry.ref; cases rv; cases ru
    obtain ⟨its,rv1,ht,_⟩:=I.list (X:=X) (.of g1)
    obtain ⟨its',rv2,ht',_⟩:=I.list (X:=X) (.of g2)
    have hl : its.length = ts.length:=by rw [<- rv1.length,<- r.length]
    have hl' : its'.length = us.length:=by rw [<- rv2.length,<- r'.length]
    by_cases hsz : ts.length = us.length
    ·
     refine SeqAt.eq_listAt (e:=fun j => decide (ts[j]? = us[j]?)) ht.isList ht'.isList (by simp; omega) (by omega) (items_eq I hu h'.2.1 h'.2.2.1 r r' rv1 rv2) ⟨.bl _,H,I,rfl,?_⟩
     have e:=rows_dec (ts:=ts) (us:=us)
     rw [<- hsz,Nat.min_self,beq_self_eq_true,Bool.and_true] at e
     rw [List.size_toArray,hl,e]
     exact k _ _ _ _ .refl sh .ofBl h'.2.2.2
    ·
     refine SeqAt.eq_list_lengthsAt ht.isList ht'.isList (by simp; omega) (by omega) ⟨.bl false,H,I,rfl,?_⟩
     have e : decide (ts = us) = false:=decide_eq_false fun z => hsz (by rw [z])
     have q:=h'.2.2.2
     rw [e] at q
     exact k _ _ _ _ .refl sh .ofBl q
   ·
    exact h'.elim
  | _ => exact h.elim
 | _ => exact h.elim
theorem o3_ne (hu : X.A.units + 30 < cLine) : OpR3 X (compareOp .NotEq) (r3Eq true):=by
 intro pins s σ H x y v u Q I rv ru h
 obtain ⟨tx,ty,H3,Q3,rx,ry,sh,h,k⟩:=h
 have sc : ∀ {x y : V},scal x y = true -> RelV x v -> RelV y u -> (k : Q (.bl (!decide (x = y))) H) -> wpAny (model X.prog X.w) X.A (compareOp .NotEq v u) (EP X pins σ Q) X.xe s:=fun {x y} a r1 r2 q => op_ne pins s σ H x y v u Q I r1 r2 ⟨a,q⟩
 cases tx with
 | int i =>
  cases ty with
  | int j =>
   rw [rx.int] at rv; rw [ry.int] at ru
   exact sc rfl rv ru (k _ _ _ _ .refl sh (by rw [show decide (V.int i = V.int j) = decide (i = j) by by_cases e : i = j <;> simp [e]]; exact .ofBl) h)
  | _ => exact h.elim
 | str i =>
  cases ty with
  | str j =>
   rw [rx.str] at rv; rw [ry.str] at ru
   exact sc rfl rv ru (k _ _ _ _ .refl sh (by rw [show decide (V.str i = V.str j) = decide (i = j) by by_cases e : i = j <;> simp [e]]; exact .ofBl) h)
  | _ => exact h.elim
 | bl i =>
  cases ty with
  | bl j =>
   rw [rx.bl] at rv; rw [ry.bl] at ru
   exact sc rfl rv ru (k _ _ _ _ .refl sh (by rw [show decide (V.bl i = V.bl j) = decide (i = j) by by_cases e : i = j <;> simp [e]]; exact .ofBl) h)
  | _ => exact h.elim
 | non =>
  cases ty with
  | non =>
   rw [rx.non] at rv; rw [ry.non] at ru
   exact sc rfl rv ru (k _ _ _ _ .refl sh (by rw [show decide (V.non = V.non) = true by simp]; exact .ofBl) h)
  | _ => exact h.elim
 | tup ts =>
  cases ty with
  | tup us =>
   obtain ⟨a,xs,rfl,sq,r⟩:=rx.tup
   obtain ⟨b,ys,rfl,sq',r'⟩:=ry.tup
   cases rv; cases ru
   obtain ⟨its,rv1,ht,_⟩:=I.tuple sq
   obtain ⟨its',rv2,ht',_⟩:=I.tuple sq'
   refine SeqAt.RcNeAt.tuples (e:=fun j => decide (ts[j]? = us[j]?)) ht ht' (by omega) (items_eq I hu h.1 h.2.1 r r' rv1 rv2) _ _ _ _ ⟨.bl _,H,I,rfl,?_⟩
   rw [List.size_toArray,List.size_toArray,<- rv1.length,<- rv2.length,<- r.length,<- r'.length,rows_dec]
   exact k _ _ _ _ .refl sh .ofBl h.2.2
  | _ => exact h.elim
 | ref a =>
  cases ty with
  | ref b =>
   have h' : (match H3 a,H3 b with
    | some (.lst xs),some (.lst ys) => a ≠ b /\ xs.all (pl 20) = true /\ ys.all (pl 20) = true /\ Q3 (.bl (!decide (xs = ys))) H3
    | _,_ => False):=h
   split at h'
   ·
    rename_i ts us e1 e2
    obtain ⟨xs,g1,r⟩:=sh a _ e1
    obtain ⟨ys,g2,r'⟩:=sh b _ e2
    cases rx.ref; cases ry.ref; cases rv; cases ru
    obtain ⟨its,rv1,ht,_⟩:=I.list (X:=X) (.of g1)
    obtain ⟨its',rv2,ht',_⟩:=I.list (X:=X) (.of g2)
    have hl : its.length = ts.length:=by rw [<- rv1.length,<- r.length]
    have hl' : its'.length = us.length:=by rw [<- rv2.length,<- r'.length]
    by_cases hsz : ts.length = us.length
    ·
     refine SeqAt.RcNeAt.lists (e:=fun j => decide (ts[j]? = us[j]?)) ht.isList ht'.isList (by simp; omega) (by omega) (items_eq I hu h'.2.1 h'.2.2.1 r r' rv1 rv2) _ _ _ _ ⟨.bl _,H,I,rfl,?_⟩
     have e:=rows_dec (ts:=ts) (us:=us)
     rw [<- hsz,Nat.min_self,beq_self_eq_true,Bool.and_true] at e
     rw [List.size_toArray,hl,e]
     exact k _ _ _ _ .refl sh .ofBl h'.2.2.2
    ·
     refine SeqAt.RcNeAt.lists_lengths ht.isList ht'.isList (by simp; omega) (by omega) _ _ _ _ ⟨.bl true,H,I,rfl,?_⟩
     have e : decide (ts = us) = false:=decide_eq_false fun z => hsz (by rw [z])
     have q:=h'.2.2.2
     rw [e] at q
     exact k _ _ _ _ .refl sh .ofBl q
   ·
    exact h'.elim
  | _ => exact h.elim
 | _ => exact h.elim
noncomputable def memB (neg : Bool) (x : T) (ts : List T) : Bool:=if neg then !decide (x ∈ ts) else decide (x ∈ ts)
noncomputable def occ (neg : Bool) (i j : Str) : Bool:=if neg then !(!(Builtin.Str.occurrences j i 0 j.length 1).isEmpty) else !(Builtin.Str.occurrences j i 0 j.length 1).isEmpty
def r3In (neg : Bool) : R3:=fun x y H Q => match y with
 | .tup ts => pl 20 x = true /\ ts.all (pl 20) = true /\ Q (.bl (memB neg x ts)) H
 | .ref a => match H a with
  | some (.lst ts) => pl 20 x = true /\ ts.all (pl 20) = true /\ Q (.bl (memB neg x ts)) H
  | some (.rol ts) => pl 20 x = true /\ ts.all (pl 20) = true /\ Q (.bl (memB neg x ts)) H
  | _ => False
 | .str j => match x with
  | .str i => Q (.bl (occ neg i j)) H
  | _ => False
 | _ => False
theorem any_is (I : Inv X pins σ H s) {x : T} {ts : List T} {xs : List V} {its : List Value} (px : pl 20 x = true) (pts : ts.all (pl 20) = true) (r : Reps X.K H ts xs) (rv : Vals xs its) (A : Around) (hu : A.units + 30 < cLine) {vx : V} {u : Value} (rx : Rep X.K H x vx) (ru : RelV vx u) :
  ∃ e : Value -> Bool,(∀ y,y ∈ its -> SeqAt.EqAt A s y u (e y)) /\ its.any e = decide (x ∈ ts):=by
 rw [List.all_eq_true] at pts
 have own : ∀ y,y ∈ its -> ∃ t v,t ∈ ts /\ Rep X.K H t v /\ RelV v y:=fun y hy => by
  obtain ⟨i,hi,e⟩:=List.mem_iff_getElem.mp hy
  have hl:=rv.length
  have e' : its[i]? = some y:=by rw [List.getElem?_eq_getElem hi,e]
  have hx : xs[i]? = some xs[i]:=List.getElem?_eq_getElem (by omega)
  obtain ⟨z,ez,rz⟩:=rv.get hx
  rw [e'] at ez; cases ez
  obtain ⟨t,et,rt⟩:=r.get' hx
  exact ⟨t,_,List.mem_of_getElem? et,rt,rz⟩
 have dec : ∀ t v y,t ∈ ts -> Rep X.K H t v -> RelV v y -> (@decide (∃ v,RelV v y /\ Rep X.K H x v) (Classical.propDecidable _) = true ↔ t = x):=fun t v y ht rt ry => by
  rw [@decide_eq_true_iff _ (Classical.propDecidable _)]
  constructor
  ·
   rintro ⟨v',r1,r2⟩
   cases r1.inj ry
   exact rep_inj I 20 t x _ (pts t ht) px rt r2
  ·
   rintro rfl
   exact ⟨v,ry,rt⟩
 refine ⟨fun y => @decide (∃ v,RelV v y /\ Rep X.K H x v) (Classical.propDecidable _),fun y hy => ?_,?_⟩
 ·
  obtain ⟨t,v,ht,rt,ry⟩:=own y hy
  have q:=eq_tree I 20 A t x v vx y u (pts t ht) px rt rx ry ru (by omega)
  have e : @decide (∃ v,RelV v y /\ Rep X.K H x v) (Classical.propDecidable _) = decide (t = x):=by
   rw [Bool.eq_iff_iff,dec t v y ht rt ry,decide_eq_true_iff]
  show SeqAt.EqAt A s y u (@decide (∃ v,RelV v y /\ Rep X.K H x v) (Classical.propDecidable _))
  rw [e]
  exact q
 ·
  rw [Bool.eq_iff_iff,List.any_eq_true,decide_eq_true_iff]
  constructor
  ·
   rintro ⟨y,hy,e⟩
   obtain ⟨t,v,ht,rt,ry⟩:=own y hy
   rw [<- (dec t v y ht rt ry).mp e]
   exact ht
  ·
   intro hx
   obtain ⟨i,hi,e⟩:=List.mem_iff_getElem.mp hx
   obtain ⟨v,ev,rvv⟩:=r.get (show ts[i]? = some x by rw [List.getElem?_eq_getElem hi,e])
   obtain ⟨y,ey,ry⟩:=rv.get ev
   exact ⟨y,List.mem_of_getElem? ey,(dec x v y hx rvv ry).mpr rfl⟩
end
end L3
namespace L3
open PySem PySem.Spec PyProof.Rows L2
section
variable {X : Cx}
theorem o3_in (hu : X.A.units + 31 < cLine) : OpR3 X (compareOp .In) (r3In false):=by
 intro pins s σ H x y v u Q I rv ru h
 obtain ⟨tx,ty,H3,Q3,rx,ry,sh,h,k⟩:=h
 have hu' : X.A.in1.units + 30 < cLine:=by rw [units_in1]; omega
 have lst : ∀ {a : Addr} {ts : List T} {xs : List V},SqL X.K H a xs -> Reps X.K H ts xs -> u = .ref a -> pl 20 tx = true -> ts.all (pl 20) = true -> Q3 (.bl (memB false tx ts)) H3 -> wpAny (model X.prog X.w) X.A (compareOp .In v u) (EP X pins σ Q) X.xe s:=by
  intro a ts xs sq r e p1 p2 q
  subst e
  obtain ⟨its,rvs,ht,_⟩:=I.list sq
  obtain ⟨e,he,ea⟩:=any_is I p1 p2 r rvs X.A.in1 hu' rx rv
  refine SeqAt.in_listAt e ht.isList (fun y hy => he y (by simpa using hy)) ⟨.bl _,H,I,rfl,?_⟩
  rw [show its.toArray.any e = its.any e by simp,ea]
  exact k _ _ _ _ .refl sh .ofBl q
 cases ty with
 | tup ts =>
  obtain ⟨a,xs,rfl,sq,r⟩:=ry.tup
  cases ru
  obtain ⟨its,rvs,ht,_⟩:=I.tuple sq
  obtain ⟨e,he,ea⟩:=any_is I h.1 h.2.1 r rvs X.A.in1 hu' rx rv
  refine SeqAt.in_tupleAt e ht (fun y hy => he y (by simpa using hy)) ⟨.bl _,H,I,rfl,?_⟩
  rw [show its.toArray.any e = its.any e by simp,ea]
  exact k _ _ _ _ .refl sh .ofBl h.2.2
 | ref a =>
  have h' : (match H3 a with
   | some (.lst ts) => pl 20 tx = true /\ ts.all (pl 20) = true /\ Q3 (.bl (memB false tx ts)) H3
   | some (.rol ts) => pl 20 tx = true /\ ts.all (pl 20) = true /\ Q3 (.bl (memB false tx ts)) H3
   | _ => False):=h
  rw [ry.ref] at ru
  split at h'
  ·
   rename_i ts e
   obtain ⟨xs,sq,r⟩:=sh.sqL (.inl e)
   exact lst sq r ru h'.1 h'.2.1 h'.2.2
  ·
   rename_i ts e
   obtain ⟨xs,sq,r⟩:=sh.sqL (.inr e)
   exact lst sq r ru h'.1 h'.2.1 h'.2.2
  ·
   exact h'.elim
 | str j =>
  cases tx with
  | str i => exact op_in_str pins s σ H x y v u Q I rv ru ⟨i,j,rx.str,ry.str,k _ _ _ _ .refl sh .ofBl h⟩
  | _ => exact h.elim
 | _ => exact h.elim
theorem o3_notin (hu : X.A.units + 31 < cLine) : OpR3 X (compareOp .NotIn) (r3In true):=by
 intro pins s σ H x y v u Q I rv ru h
 obtain ⟨tx,ty,H3,Q3,rx,ry,sh,h,k⟩:=h
 have hu' : X.A.in1.units + 30 < cLine:=by rw [units_in1]; omega
 have lst : ∀ {a : Addr} {ts : List T} {xs : List V},SqL X.K H a xs -> Reps X.K H ts xs -> u = .ref a -> pl 20 tx = true -> ts.all (pl 20) = true -> Q3 (.bl (memB true tx ts)) H3 -> wpAny (model X.prog X.w) X.A (compareOp .NotIn v u) (EP X pins σ Q) X.xe s:=by
  intro a ts xs sq r e p1 p2 q
  subst e
  obtain ⟨its,rvs,ht,_⟩:=I.list sq
  obtain ⟨e,he,ea⟩:=any_is I p1 p2 r rvs X.A.in1 hu' rx rv
  refine SeqAt.notIn_listAt e ht.isList (fun y hy => he y (by simpa using hy)) ⟨.bl _,H,I,rfl,?_⟩
  rw [show its.toArray.any e = its.any e by simp,ea]
  exact k _ _ _ _ .refl sh .ofBl q
 cases ty with
 | tup ts =>
  obtain ⟨a,xs,rfl,sq,r⟩:=ry.tup
  cases ru
  obtain ⟨its,rvs,ht,_⟩:=I.tuple sq
  obtain ⟨e,he,ea⟩:=any_is I h.1 h.2.1 r rvs X.A.in1 hu' rx rv
  refine SeqAt.notIn_tupleAt e ht (fun y hy => he y (by simpa using hy)) ⟨.bl _,H,I,rfl,?_⟩
  rw [show its.toArray.any e = its.any e by simp,ea]
  exact k _ _ _ _ .refl sh .ofBl h.2.2
 | ref a =>
  have h' : (match H3 a with
   | some (.lst ts) => pl 20 tx = true /\ ts.all (pl 20) = true /\ Q3 (.bl (memB true tx ts)) H3
   | some (.rol ts) => pl 20 tx = true /\ ts.all (pl 20) = true /\ Q3 (.bl (memB true tx ts)) H3
   | _ => False):=h
  rw [ry.ref] at ru
  split at h'
  ·
   rename_i ts e
   obtain ⟨xs,sq,r⟩:=sh.sqL (.inl e)
   exact lst sq r ru h'.1 h'.2.1 h'.2.2
  ·
   rename_i ts e
   obtain ⟨xs,sq,r⟩:=sh.sqL (.inr e)
   exact lst sq r ru h'.1 h'.2.1 h'.2.2
  ·
   exact h'.elim
 | str j =>
  cases tx with
  | str i => exact op_notin_str pins s σ H x y v u Q I rv ru ⟨i,j,rx.str,ry.str,k _ _ _ _ .refl sh .ofBl h⟩
  | _ => exact h.elim
 | _ => exact h.elim
def oq {α : Type} (o : Option α) (Q : α -> Prop) : Prop:=match o with
 | some v => Q v
 | none => False
def r3Ix : R3:=fun x y H Q => match x,y with
 | .ref a,.int i => match H a with
  | some (.lst ts) => oq (atI ts i) fun t => Q t H
  | some (.rol ts) => oq (atI ts i) fun t => Q t H
  | _ => False
 | .tup ts,.int i => oq (atI ts i) fun t => Q t H
 | .str z,.int i => z.length <= sizeLine /\ oq (atI z.cps.toList i) fun c => Q (.str ⟨#[c]⟩) H
 | _,_ => False
theorem atI_rep {K : PySem.W.Frag} {H : Hp} {ts : List T} {xs : List V} {i : Int} {t : T} (r : Reps K H ts xs) (h : atI ts i = some t) : ∃ v,atI xs i = some v /\ Rep K H t v:=by
 unfold atI at h ⊢
 rw [<- r.length]
 cases e : ixN ts.length i with
 | none => rw [e] at h; cases h
 | some j =>
  rw [e] at h
  exact r.get h
theorem ix3 : IxR3 X r3Ix:=by
 refine IxR.imp ix_seq ?_
 rintro x y H Q ⟨tx,ty,H3,Q3,rx,ry,sh,h,k⟩
 have lst : ∀ {a : Addr} {ts : List T} {xs : List V} {i : Int},SqL X.K H a xs -> Reps X.K H ts xs -> x = .ref a -> y = .int i -> oq (atI ts i) (fun t => Q3 t H3) -> rIx X.K x y H Q:=by
  intro a ts xs i sq r e1 e2 q
  cases e : atI ts i with
  | none => rw [e] at q; exact q.elim
  | some t =>
   rw [e] at q
   obtain ⟨v,ev,rv⟩:=atI_rep r e
   exact .inl ⟨a,xs,i,v,e1,e2,sq,ev,k _ _ _ _ .refl sh rv q⟩
 cases tx with
 | ref a =>
  cases ty with
  | int i =>
   have h' : (match H3 a with
    | some (.lst ts) => oq (atI ts i) fun t => Q3 t H3
    | some (.rol ts) => oq (atI ts i) fun t => Q3 t H3
    | _ => False):=h
   split at h'
   ·
    rename_i ts e
    obtain ⟨xs,sq,r⟩:=sh.sqL (.inl e)
    exact lst sq r rx.ref ry.int h'
   ·
    rename_i ts e
    obtain ⟨xs,sq,r⟩:=sh.sqL (.inr e)
    exact lst sq r rx.ref ry.int h'
   ·
    exact h'.elim
  | _ => exact h.elim
 | tup ts =>
  cases ty with
  | int i =>
   have h' : oq (atI ts i) fun t => Q3 t H3:=h
   cases e : atI ts i with
   | none => rw [e] at h'; exact h'.elim
   | some t =>
    rw [e] at h'
    obtain ⟨a,xs,e1,sq,r⟩:=rx.tup
    obtain ⟨v,ev,rv⟩:=atI_rep r e
    exact .inr (.inl ⟨a,xs,i,v,e1,ry.int,sq,ev,k _ _ _ _ .refl sh rv h'⟩)
  | _ => exact h.elim
 | str z =>
  cases ty with
  | int i =>
   have h' : z.length <= sizeLine /\ oq (atI z.cps.toList i) fun c => Q3 (.str ⟨#[c]⟩) H3:=h
   cases e : atI z.cps.toList i with
   | none => rw [e] at h'; exact h'.2.elim
   | some c =>
    rw [e] at h'
    exact .inr (.inr ⟨z,i,c,rx.str,ry.int,h'.1,e,k _ _ _ _ .refl sh .ofStr h'.2⟩)
  | _ => exact h.elim
 | _ => exact h.elim
def r3SetL : TSet3:=fun o i v H Q => match o,i with
 | .ref a,.int k => match H a with
  | some (.lst ts) => oq (ixN ts.length k) fun j => Q (up3 H a (.lst (ts.set j v)))
  | _ => False
 | _,_ => False
theorem SimH.wrL {K : PySem.W.Frag} {H : Hp} {H3 : Hp3} {a : Addr} {xs : List V} {ts : List T} {xs' : List V} (s : SimH K H3 H) (hH : H a = some (.lst xs)) (r : Reps K H ts xs') : SimH K (up3 H3 a (.lst ts)) (upd H a (.lst xs')):=fun b o e => by
 have le : TupLe K H (upd H a (.lst xs')):=wr_tupLe (by rw [hH]; exact trivial)
 by_cases hb : b = a
 ·
  subst hb
  rw [up3_same] at e; cases e
  exact ⟨xs',upd_same,r.mono le⟩
 ·
  rw [up3_ne hb] at e
  exact (s b o e).stay le fun u q => by rw [upd_ne hb]; exact q
theorem set3_list : PSet3 X r3SetL:=by
 refine PSet.imp set_list ?_
 rintro o i v H Q ⟨to,ti,tv,H3,Q3,ro,ri,rv,sh,h,k⟩
 cases to with
 | ref a =>
  cases ti with
  | int n =>
   have h' : (match H3 a with
    | some (.lst ts) => oq (ixN ts.length n) fun j => Q3 (up3 H3 a (.lst (ts.set j tv)))
    | _ => False):=h
   split at h'
   ·
    rename_i ts e
    obtain ⟨xs,hH,r⟩:=sh a _ e
    cases ej : ixN ts.length n with
    | none => rw [ej] at h'; exact h'.elim
    | some j =>
     rw [ej] at h'
     exact ⟨a,xs,n,j,ro.ref,ri.int,hH,by rw [<- r.length]; exact ej,k _ _ (wr_tupLe (by rw [hH]; exact trivial)) (sh.wrL hH (r.set j rv)) h'⟩
   ·
    exact h'.elim
  | _ => exact h.elim
 | _ => exact h.elim
abbrev TO3:=St3 -> Hp3 -> (Option Int -> Hp3 -> Prop) -> Prop
def lftO (K : PySem.W.Frag) (t3 : TO3) : TO:=fun σ H Q => ∃ σ3 H3 Q3,SimS K H σ3 σ /\ SimH K H3 H /\ t3 σ3 H3 Q3 /\ ∀ o H' H3',TupLe K H H' -> SimH K H3' H' -> Q3 o H3' -> Q o H'
def PO3 (X : Cx) (e : Option Expr) (t : TO3) : Prop:=PO X e (lftO X.K t)
theorem PO.imp {e : Option Expr} {t t' : TO} (h : PO X e t) (w : ∀ σ H Q,t' σ H Q -> t σ H Q) : PO X e t':=fun pins s σ H Q I q => h pins s σ H Q I (w σ H Q q)
def tNoPart3 : TO3:=fun _ H Q => Q none H
def tPart3 (t : TE3) : TO3:=fun σ H Q => t σ H fun x H1 => match x with
 | .int i => Q (some i) H1
 | _ => False
theorem po3_none : PO3 X none tNoPart3:=by
 refine PO.imp po_none ?_
 rintro σ H Q ⟨σ3,H3,Q3,ss,sh,h,k⟩
 exact k _ _ _ .refl sh h
theorem po3_some {e : Expr} {te : TE3} (h : PE3 X e te) : PO3 X (some e) (tPart3 te):=by
 refine PO.imp (po_some h) ?_
 rintro σ H Q ⟨σ3,H3,Q3,ss,sh,h,k⟩
 refine ⟨σ3,H3,_,ss,sh,h,fun v H' t H3' le sh' r q => ?_⟩
 cases t with
 | int i => exact ⟨i,r.int,k _ _ _ le sh' q⟩
 | _ => exact q.elim
theorem sl_str : SlR X (fun x lo hi H Q => ∃ z,x = .str z /\ z.length <= sizeLine /\ Q (.str (PySem.Txt.slice z lo hi)) H):=by
 intro pins s σ H x v vl vu lo hi sl Q I rx hs pl pu h
 obtain ⟨z,rfl,hz,q⟩:=h
 obtain ⟨t,rfl⟩:=rx
 refine ⟨"str",_,F.slot_str_getitem.lookup,typeIs_str _ _ _,?_⟩
 obtain ⟨o,e,c,d⟩:=hs
 have fin : ∀ (t' : Tok) (k : Nat),EP X pins σ Q (.str (PySem.Txt.slice z lo hi) t') { s with toks:=k }:=fun t' k => ⟨.str _,H,I.tok k,⟨t',rfl⟩,q⟩
 cases pl with
 | none =>
  cases pu with
  | none => exact wpAny_getItem_str_slice (l:=none) (u:=none) (st:=none) ⟨o,e,c,d⟩ rfl (post_val_or_str ⟨Nat.le_trans (PySem.Txt.slice_le z _ _) hz,fin⟩)
  | int j uj => exact wpAny_getItem_str_slice (l:=none) (u:=some (j,uj)) (st:=none) ⟨o,e,c,d⟩ rfl (post_val_or_str ⟨Nat.le_trans (PySem.Txt.slice_le z _ _) hz,fin⟩)
 | int i ui =>
  cases pu with
  | none => exact wpAny_getItem_str_slice (l:=some (i,ui)) (u:=none) (st:=none) ⟨o,e,c,d⟩ rfl (post_val_or_str ⟨Nat.le_trans (PySem.Txt.slice_le z _ _) hz,fin⟩)
  | int j uj => exact wpAny_getItem_str_slice (l:=some (i,ui)) (u:=some (j,uj)) (st:=none) ⟨o,e,c,d⟩ rfl (post_val_or_str ⟨Nat.le_trans (PySem.Txt.slice_le z _ _) hz,fin⟩)
noncomputable def cut3 (ts : List T) (lo hi : Option Int) : List T:=(ts.drop (HT.sIx ts.length 0 lo)).take (HT.sIx ts.length ts.length hi - HT.sIx ts.length 0 lo)
def r3Sl : T -> Option Int -> Option Int -> Hp3 -> VK3 -> Prop:=fun x lo hi H Q => match x with
 | .ref a => match H a with
  | some (.lst ts) => ∀ p,H p = none -> Q (.ref p) (up3 H p (.lst (cut3 ts lo hi)))
  | some (.rol ts) => ∀ p,H p = none -> Q (.ref p) (up3 H p (.lst (cut3 ts lo hi)))
  | _ => False
 | .tup ts => ¬ (HT.sIx ts.length 0 lo = 0 /\ HT.sIx ts.length ts.length hi = ts.length) /\ Q (.tup (cut3 ts lo hi)) H
 | .str z => z.length <= sizeLine /\ Q (.str (PySem.Txt.slice z lo hi)) H
 | _ => False
def tSl3 (te : TE3) (tl th : TO3) : TE3:=fun σ H Q => te σ H fun x H1 => tl σ H1 fun l H2 => th σ H2 fun u H3 => r3Sl x l u H3 Q
theorem cut_rep {K : PySem.W.Frag} {H : Hp} {ts : List T} {xs : List V} (r : Reps K H ts xs) (lo hi : Option Int) : Reps K H (cut3 ts lo hi) (cutV xs lo hi):=by
 unfold cut3 cutV
 rw [<- r.length]
 exact (r.drop _).take _
theorem e3_slice {e : Expr} {lo hi : Option Expr} {te : TE3} {tl th : TO3} {p2 pos : Pos} (he : PE3 X e te) (hl : PO3 X lo tl) (hu : PO3 X hi th) : PE3 X (.Subscript e (.Slice lo hi none p2) pos) (tSl3 te tl th):=by
 refine PE.imp (pe_slice (sl_list.or (sl_tup.or sl_str)) he hl hu) ?_
 rintro σ H Q ⟨σ3,H3,Q3,ss,sh,h,k⟩
 refine ⟨σ3,H3,_,ss,sh,h,fun x H1 tx H31 le1 sh1 rx q1 => ⟨σ3,H31,_,ss.mono le1,sh1,q1,fun l H2 H32 le2 sh2 q2 => ⟨σ3,H32,_,ss.mono (le1.trans le2),sh2,q2,fun u H4 H34 le4 sh4 q4 => ?_⟩⟩⟩
 have k':=k.at (le1.trans (le2.trans le4))
 have rx':=rx.mono (le2.trans le4)
 cases tx with
 | ref a =>
  have h' : (match H34 a with
   | some (.lst ts) => ∀ p,H34 p = none -> Q3 (.ref p) (up3 H34 p (.lst (cut3 ts l u)))
   | some (.rol ts) => ∀ p,H34 p = none -> Q3 (.ref p) (up3 H34 p (.lst (cut3 ts l u)))
   | _ => False):=q4
  split at h'
  ·
   rename_i ts e
   obtain ⟨xs,sq,r⟩:=sh4.sqL (.inl e)
   exact .inl ⟨a,xs,rx'.ref,sq,fun p hp => k' _ _ _ _ (upd_tupLe hp) (sh4.newLst hp (cut_rep r l u)) .ofRef (h' p (sh4.fresh hp))⟩
  ·
   rename_i ts e
   obtain ⟨xs,sq,r⟩:=sh4.sqL (.inr e)
   exact .inl ⟨a,xs,rx'.ref,sq,fun p hp => k' _ _ _ _ (upd_tupLe hp) (sh4.newLst hp (cut_rep r l u)) .ofRef (h' p (sh4.fresh hp))⟩
  ·
   exact h'.elim
 | tup ts =>
  obtain ⟨a,xs,rfl,sq,r⟩:=rx'.tup
  refine .inr (.inl ⟨a,xs,rfl,sq,by rw [<- r.length]; exact q4.1,fun p hp => k' _ _ _ _ (upd_tupLe hp) (sh4.new hp) (SimH.newTup (H3:=H34) hp (cut_rep r l u)) q4.2⟩)
 | str z => exact .inr (.inr ⟨z,rx'.str,q4.1,k' _ _ _ _ .refl sh4 .ofStr q4.2⟩)
 | _ => exact q4.elim
noncomputable def look3 (k : Str) : List (Str × T) -> Option T
 | [] => none
 | (k',v) :: r => if k' = k then some v else look3 k r
noncomputable def put3 (k : Str) (v : T) (kvs : List (Str × T)) : List (Str × T) :=
 if (kvs.any fun kv => decide (kv.1 = k)) = true then kvs.map (fun kv => if kv.1 = k then (kv.1,v) else kv) else kvs ++ [(k,v)]
def r3D : R3:=fun x y H Q => match x,y with
 | .ref a,.str k => match H a with
  | some (.dct kvs) => oq (look3 k kvs) fun t => Q t H
  | _ => False
 | _,_ => False
theorem look_rep {K : PySem.W.Frag} {H : Hp} {k : Str} : ∀ {kvs : List (Str × T)} {vs : List (Key × V)} {t : T},RepD K H kvs vs -> look3 k kvs = some t -> ∃ v,valV vs (Sum.inr k : Key) = some v /\ Rep K H t v
 | [],_,_,_,e => by cases e
 | (k',t') :: r,_,t,.cons (b:=(kk,v')) ⟨e1,rv⟩ rr,e => by
  simp only at e1 rv
  subst e1
  unfold look3 at e
  by_cases hk : k' = k
  ·
   rw [if_pos hk] at e
   cases e
   exact ⟨v',by rw [valV_pos (by rw [hk])],rv⟩
  ·
   rw [if_neg hk] at e
   obtain ⟨v,ev,q⟩:=look_rep rr e
   exact ⟨v,by rw [valV_neg (by intro z; exact hk (Sum.inr.inj z))]; exact ev,q⟩
theorem e3_dget {o i : Expr} {to ti : TE3} {pos : Pos} (hu : X.A.units + 1 < cLine) (ho : PE3 X o to) (hi : PE3 X i ti) (hs : NoSl i:=by exact fun _ _ => rfl) : PE3 X (.Subscript o i pos) (tOp3 r3D to ti):=by
 refine PE.imp (pe_dget hu ho hi hs) ?_
 rintro σ H Q ⟨σ3,H3,Q3,ss,sh,h,k⟩
 refine ⟨σ3,H3,_,ss,sh,h,fun x H1 tx H31 le1 sh1 rx q1 => ⟨σ3,H31,_,ss.mono le1,sh1,q1,fun y H2 ty H32 le2 sh2 ry q2 => ?_⟩⟩
 cases tx with
 | ref a =>
  cases ty with
  | str key =>
   have h' : (match H32 a with
    | some (.dct kvs) => oq (look3 key kvs) fun t => Q3 t H32
    | _ => False):=q2
   split at h'
   ·
    rename_i kvs e
    obtain ⟨vs,hH,r⟩:=sh2 a _ e
    cases el : look3 key kvs with
    | none => rw [el] at h'; exact h'.elim
    | some t =>
     rw [el] at h'
     obtain ⟨v,ev,rv⟩:=look_rep r el
     refine ⟨a,v,rx.ref,?_,k.at (le1.trans le2) _ _ _ _ .refl sh2 rv h'⟩
     rw [ry.str,<- ev]
     exact DGet.k (k:=Sum.inr key) hH
   ·
    exact h'.elim
  | _ => exact q2.elim
 | _ => exact q2.elim
def sDPut3 (td ty tv : TE3) : TS3:=fun D σ H => tv σ H fun v H1 => td σ H1 fun x H2 => ty σ H2 fun y H3 => match x,y with
 | .ref a,.str k => match H3 a with
  | some (.dct kvs) => kvs.length < sizeLine /\ D.nx σ (up3 H3 a (.dct (put3 k v kvs)))
  | _ => False
 | _,_ => False
theorem put_rep {K : PySem.W.Frag} {H : Hp} {k : Str} {t : T} {v : V} (rv : Rep K H t v) {kvs : List (Str × T)} {vs : List (Key × V)} (r : RepD K H kvs vs) : RepD K H (put3 k t kvs) (putK vs (Sum.inr k : Key) v):=by
 have e : ∀ {kvs : List (Str × T)} {vs : List (Key × V)},RepD K H kvs vs -> (kvs.any fun kv => decide (kv.1 = k)) = (vs.any fun kv => decide (kv.1 = (Sum.inr k : Key))) /\ RepD K H (kvs.map (fun kv => if kv.1 = k then (kv.1,t) else kv)) (vs.map (fun kv => if kv.1 = (Sum.inr k : Key) then (kv.1,v) else kv)):=by
  intro kvs
  induction kvs with
  | nil => intro vs r; cases r; exact ⟨rfl,.nil⟩
  | cons p l ih =>
   intro vs r
   cases r with
   | cons q rr =>
    rename_i b l2
    obtain ⟨e1,e2⟩:=ih rr
    obtain ⟨q1,q2⟩:=q
    obtain ⟨bk,bv⟩:=b
    simp only at q1 q2
    subst q1
    by_cases hk : p.1 = k
    ·
     refine ⟨by simp [hk],?_⟩
     simp only [List.map_cons,hk,if_true]
     exact .cons ⟨rfl,rv⟩ e2
    ·
     have hk' : ¬ (Sum.inr p.1 : Key) = Sum.inr k:=fun z => hk (Sum.inr.inj z)
     refine ⟨by simp only [List.any_cons,hk,hk',decide_false,Bool.false_or]; exact e1,?_⟩
     simp only [List.map_cons,hk,hk',if_false]
     exact .cons ⟨rfl,q2⟩ e2
 obtain ⟨e1,e2⟩:=e r
 unfold put3 putK
 rw [e1]
 split
 ·
  exact e2
 ·
  have app : ∀ {a : List (Str × T)} {b : List (Key × V)},RepD K H a b -> RepD K H (a ++ [(k,t)]) (b ++ [((Sum.inr k : Key),v)]):=fun h => Paired.snoc h ⟨rfl,rv⟩
  exact app r
theorem SimH.wrD {K : PySem.W.Frag} {H : Hp} {H3 : Hp3} {a : Addr} {kv : List (Key × V)} {kvs : List (Str × T)} {kv' : List (Key × V)} (s : SimH K H3 H) (hH : H a = some (.dK kv)) (r : RepD K H kvs kv') : SimH K (up3 H3 a (.dct kvs)) (upd H a (.dK kv')):=fun b o e => by
 have le : TupLe K H (upd H a (.dK kv')):=wr_tupLe (by rw [hH]; exact trivial)
 by_cases hb : b = a
 ·
  subst hb
  rw [up3_same] at e; cases e
  exact ⟨kv',upd_same,r.mono le⟩
 ·
  rw [up3_ne hb] at e
  exact (s b o e).stay le fun u q => by rw [upd_ne hb]; exact q
def prs3 : List (Str × TE3) -> St3 -> Hp3 -> (List (Str × T) -> Hp3 -> Prop) -> Prop
 | [],_,H,Q => Q [] H
 | (k,tv) :: r,σ,H,Q => tv σ H fun y H2 => prs3 r σ H2 fun ps H3 => Q ((k,y) :: ps) H3
noncomputable def mrg3 (kvs more : List (Str × T)) : List (Str × T):=more.foldl (fun acc kv => put3 kv.1 kv.2 acc) kvs
def tDisp3 (trs : List (Str × TE3)) : TE3:=fun σ H Q => ∀ p,H p = none -> prs3 trs σ (up3 H p (.dct [])) fun ps H2 => H2 p = some (.dct []) /\ ps.length <= 15 /\ Q (.ref p) (up3 H2 p (.dct (mrg3 [] ps)))
def PPs3 (X : Cx) (pos : Pos) (keys : List (Option Expr)) (values : List Expr) (trs : List (Str × TE3)) : Prop:=PPs X pos keys values (trs.map fun p => (lft X.K (tC3 (.str p.1)),lft X.K p.2))
theorem ps3_nil {pos : Pos} : PPs3 X pos [] [] []:=pps_nil
theorem ps3_cons {pos kpos : Pos} {x : Str} {j : Nat} {v : Expr} {ks : List (Option Expr)} {vs : List Expr} {tv : TE3} {trs : List (Str × TE3)} (hv : PE3 X v tv) (hr : PPs3 X pos ks vs trs) :
  PPs3 X pos (some (.Constant (.str x) j kpos) :: ks) (v :: vs) ((x,tv) :: trs):=pps_cons c3_str hv hr
theorem prs_refine {K : PySem.W.Frag} {σ3 : St3} {σ : L2.St} : ∀ {trs : List (Str × TE3)} {H : Hp} {H3 : Hp3} {Q3 : List (Str × T) -> Hp3 -> Prop} {Q : List (V × V) -> Hp -> Prop},SimS K H σ3 σ -> SimH K H3 H -> prs3 trs σ3 H3 Q3 ->
  (∀ ps qs H' H3',TupLe K H H' -> SimH K H3' H' -> Paired (fun (p : Str × T) (q : V × V) => q.1 = .str p.1 /\ Rep K H' p.2 q.2) ps qs -> Q3 ps H3' -> Q qs H') -> tPairs (trs.map fun p => (lft K (tC3 (.str p.1)),lft K p.2)) σ H Q
 | [],H,H3,Q3,Q,ss,sh,h,k => k [] [] H H3 .refl sh .nil h
 | (key,tv) :: r,H,H3,Q3,Q,ss,sh,h,k => by
  refine ⟨σ3,H3,fun t H => t = .str key /\ H = H3,ss,sh,⟨rfl,rfl⟩,fun x H1 tx H31 le1 sh1 rx ⟨e1,e2⟩ => ?_⟩
  subst e1 e2
  refine ⟨σ3,H31,_,ss.mono le1,sh1,h,fun y H2 ty H32 le2 sh2 ry q2 => ?_⟩
  exact prs_refine (ss.mono (le1.trans le2)) sh2 q2 fun ps qs H' H3' le sh' pr q => k _ _ H' H3' (le1.trans (le2.trans le)) sh' (.cons ⟨rx.str,ry.mono le⟩ pr) q
theorem mrg_rep {K : PySem.W.Frag} {H : Hp} : ∀ {ps : List (Str × T)} {qs : List (Key × V)} {kvs : List (Str × T)} {vs : List (Key × V)},RepD K H ps qs -> RepD K H kvs vs -> RepD K H (mrg3 kvs ps) (mergeK vs qs):=by
 intro ps
 induction ps with
 | nil => intro qs kvs vs r r'; cases r; exact r'
 | cons p l ih =>
  intro qs kvs vs r r'
  cases r with
  | cons q rr =>
   rename_i b l2
   obtain ⟨bk,bv⟩:=b
   obtain ⟨q1,q2⟩:=q
   simp only at q1 q2
   subst q1
   show RepD K H (mrg3 (put3 p.1 p.2 kvs) l) (mergeK (putK vs (Sum.inr p.1) bv) l2)
   exact ih rr (put_rep q2 r')
theorem e3_disp {pos : Pos} {keys : List (Option Expr)} {values : List Expr} {trs : List (Str × TE3)} (h : PPs3 X pos keys values trs) (hall : keys.all (·.isSome) = true:=by rfl) (hl : keys.length = values.length:=by rfl) (h0 : keys ≠ []:=by simp)
  (h15 : keys.length <= 15:=by decide) : PE3 X (.Dict keys values pos) (tDisp3 trs):=by
 refine PE.imp (pe_disp h hall hl h0 h15) ?_
 rintro σ H Q ⟨σ3,H3,Q3,ss,sh,h,k⟩ p hp
 have le0 : TupLe X.K H (upd H p (.dK [])):=upd_tupLe hp
 have sh0 : SimH X.K (up3 H3 p (.dct [])) (upd H p (.dK [])):=fun a o e => by
  by_cases ha : a = p
  ·
   subst ha
   rw [up3_same] at e; cases e
   exact ⟨[],upd_same,.nil⟩
  ·
   rw [up3_ne ha] at e
   exact sh.new hp a o e
 refine prs_refine (ss.mono le0) sh0 (h p (sh.fresh hp)) fun ps qs H' H3' le sh' pr q => ?_
 obtain ⟨vs,hH,r0⟩:=sh' p _ q.1
 cases r0
 have hk : ∀ {ps : List (Str × T)} {qs : List (V × V)},Paired (fun (p : Str × T) (q : V × V) => q.1 = .str p.1 /\ Rep X.K H' p.2 q.2) ps qs -> ∃ kvs : List (Key × V),qs = kvs.map (fun kv => (kV kv.1,kv.2)) /\ RepD X.K H' ps kvs:=by
  intro ps
  induction ps with
  | nil => intro qs r; cases r; exact ⟨[],rfl,.nil⟩
  | cons p l ih =>
   intro qs r
   cases r with
   | cons q rr =>
    rename_i b l2
    obtain ⟨b1,b2⟩:=b
    obtain ⟨kvs,e,rd⟩:=ih rr
    obtain ⟨q1,q2⟩:=q
    simp only at q1 q2
    subst q1
    exact ⟨(Sum.inr p.1,b2) :: kvs,by rw [e]; rfl,.cons ⟨rfl,q2⟩ rd⟩
 obtain ⟨kvs,e,rd⟩:=hk pr
 refine ⟨hH,kvs,e,by rw [<- Paired.length rd]; exact q.2.1,?_⟩
 exact k _ _ _ _ (le0.trans (le.trans (wr_tupLe (by rw [hH]; exact trivial)))) (sh'.wrD hH (mrg_rep rd .nil)) .ofRef q.2.2
end
end L3
namespace L3
open PySem PySem.Spec PyProof.Rows L2
section
variable {X : Cx} {x : Str} {p pos : Pos} {e : Expr} {es : List Expr} {t : TA3} {id Ty : String} {r : List T -> Hp3 -> VK3 -> Prop}
def tCB3 (r : List T -> Hp3 -> VK3 -> Prop) (t : TA3) : TE3:=fun σ H Q => t σ H fun vs H1 => r vs H1 Q
theorem e3_callB (hc : CallR3 X (.builtin id) r) (hg : Gl X x) (hm : X.mg x = none) (hv : bootBuiltins x = some (.builtin id)) (ha : PA3 X (e :: es) t) (hn : x ≠ "__name__":=by decide) (hdb : (x == ("__debug__" : Str)) = false:=by decide)
  (he : starEach (e :: es) X.env = (false,eval e X.env) :: starEach es X.env:=by rfl) (hpl : (backTo pos (starEach es X.env)).any (·.1) = false:=by rfl) : PE3 X (.Call (.Name x p) (e :: es) [] pos) (tCB3 r t):=by
 refine PE.imp (pe_callB hc hg hm hv ha hn hdb he hpl) ?_
 rintro σ H Q ⟨σ3,H3,Q3,ss,sh,h,k⟩
 exact ⟨σ3,H3,_,ss,sh,h,fun vs H' ts H3' le sh' r q => ⟨ts,H3',Q3,r,sh',q,k.at le⟩⟩
theorem e3_callTy (hc : CallR3 X (.type Ty) r) (hg : Gl X x) (hm : X.mg x = none) (hv : bootBuiltins x = some (.type Ty)) (ha : PA3 X (e :: es) t) (hn : x ≠ "__name__":=by decide) (hdb : (x == ("__debug__" : Str)) = false:=by decide)
  (he : starEach (e :: es) X.env = (false,eval e X.env) :: starEach es X.env:=by rfl) (hpl : (backTo pos (starEach es X.env)).any (·.1) = false:=by rfl) : PE3 X (.Call (.Name x p) (e :: es) [] pos) (tCB3 r t):=by
 refine PE.imp (pe_callTy hc hg hm hv ha hn hdb he hpl) ?_
 rintro σ H Q ⟨σ3,H3,Q3,ss,sh,h,k⟩
 exact ⟨σ3,H3,_,ss,sh,h,fun vs H' ts H3' le sh' r q => ⟨ts,H3',Q3,r,sh',q,k.at le⟩⟩
theorem b3_ty {n : String} (hg : Gl X x) (hm : X.mg x = none) (hv : bootBuiltins x = some (.type n)) (hn : x ≠ "__name__":=by decide) (hdb : (x == ("__debug__" : Str)) = false:=by decide) : PE3 X (.Name x pos) (tC3 (.ty n)):=by
 refine PE.imp (pe_bltn (v:=.ty n) hg hm hv rfl hn hdb) ?_
 rintro σ H Q ⟨σ3,H3,Q3,ss,sh,h,k⟩
 exact k _ _ _ H3 .refl sh .ofTy h
theorem Reps.one' {K : PySem.W.Frag} {H : Hp} {t : T} {vs : List V} (r : Reps K H [t] vs) : ∃ v,vs = [v] /\ Rep K H t v:=by
 obtain ⟨v,_,rfl,a,b⟩:=r.inv
 rw [b.inv0]
 exact ⟨v,rfl,a⟩
theorem Reps.two' {K : PySem.W.Frag} {H : Hp} {t u : T} {vs : List V} (r : Reps K H [t,u] vs) : ∃ v w,vs = [v,w] /\ Rep K H t v /\ Rep K H u w:=by
 obtain ⟨v,_,rfl,a,b⟩:=r.inv
 obtain ⟨w,rfl,c⟩:=b.one'
 exact ⟨v,w,rfl,a,c⟩
def r3Len : List T -> Hp3 -> VK3 -> Prop:=fun ts H Q => match ts with
 | [.ref a] => match H a with
  | some (.lst xs) => Q (.int xs.length) H
  | some (.rol xs) => Q (.int xs.length) H
  | _ => False
 | [.tup xs] => Q (.int xs.length) H
 | [.str z] => z.length <= sizeLine /\ Q (.int z.length) H
 | _ => False
theorem c3_len : CallR3 X (.builtin "len") r3Len:=by
 refine CallR.imp (call_len_seq.or call_len_str) ?_
 rintro xs H Q ⟨ts,H3,Q3,r,sh,h,k⟩
 match ts,h,r with
 | [.ref a],h,r =>
  obtain ⟨v,rfl,rv⟩:=r.one'
  have h' : (match H3 a with
   | some (.lst xs) => Q3 (.int xs.length) H3
   | some (.rol xs) => Q3 (.int xs.length) H3
   | _ => False):=h
  split at h'
  ·
   rename_i us e
   obtain ⟨ys,sq,rs⟩:=sh.sqL (.inl e)
   exact .inl ⟨a,ys,by rw [rv.ref],.inl sq,by rw [<- rs.length]; exact k _ _ _ _ .refl sh .ofInt h'⟩
  ·
   rename_i us e
   obtain ⟨ys,sq,rs⟩:=sh.sqL (.inr e)
   exact .inl ⟨a,ys,by rw [rv.ref],.inl sq,by rw [<- rs.length]; exact k _ _ _ _ .refl sh .ofInt h'⟩
  ·
   exact h'.elim
 | [.tup us],h,r =>
  obtain ⟨v,rfl,rv⟩:=r.one'
  obtain ⟨a,ys,rfl,sq,rs⟩:=rv.tup
  exact .inl ⟨a,ys,rfl,.inr sq,by rw [<- rs.length]; exact k _ _ _ _ .refl sh .ofInt h⟩
 | [.str z],h,r =>
  obtain ⟨v,rfl,rv⟩:=r.one'
  exact .inr ⟨z,by rw [rv.str],h.1,k _ _ _ _ .refl sh .ofInt h.2⟩
def r3List : List T -> Hp3 -> VK3 -> Prop:=fun ts H Q => match ts with
 | [.ref a] => match H a with
  | some (.lst xs) => ∀ p,H p = none -> Q (.ref p) (up3 H p (.lst xs))
  | some (.rol xs) => ∀ p,H p = none -> Q (.ref p) (up3 H p (.lst xs))
  | _ => False
 | [.tup xs] => ∀ p,H p = none -> Q (.ref p) (up3 H p (.lst xs))
 | _ => False
theorem c3_list : CallR3 X (.type "list") r3List:=by
 refine CallR.imp call_list_of ?_
 rintro xs H Q ⟨ts,H3,Q3,r,sh,h,k⟩
 match ts,h,r with
 | [.ref a],h,r =>
  obtain ⟨v,rfl,rv⟩:=r.one'
  have h' : (match H3 a with
   | some (.lst xs) => ∀ p,H3 p = none -> Q3 (.ref p) (up3 H3 p (.lst xs))
   | some (.rol xs) => ∀ p,H3 p = none -> Q3 (.ref p) (up3 H3 p (.lst xs))
   | _ => False):=h
  split at h'
  ·
   rename_i us e
   obtain ⟨ys,sq,rs⟩:=sh.sqL (.inl e)
   exact ⟨a,ys,by rw [rv.ref],.inl sq,fun l hl => k _ _ _ _ (upd_tupLe hl) (sh.newLst hl rs) .ofRef (h' l (sh.fresh hl))⟩
  ·
   rename_i us e
   obtain ⟨ys,sq,rs⟩:=sh.sqL (.inr e)
   exact ⟨a,ys,by rw [rv.ref],.inl sq,fun l hl => k _ _ _ _ (upd_tupLe hl) (sh.newLst hl rs) .ofRef (h' l (sh.fresh hl))⟩
  ·
   exact h'.elim
 | [.tup us],h,r =>
  obtain ⟨v,rfl,rv⟩:=r.one'
  obtain ⟨a,ys,rfl,sq,rs⟩:=rv.tup
  exact ⟨a,ys,rfl,.inr sq,fun l hl => k _ _ _ _ (upd_tupLe hl) (sh.newLst hl rs) .ofRef (h l (sh.fresh hl))⟩
def r3Tuple : List T -> Hp3 -> VK3 -> Prop:=fun ts H Q => match ts with
 | [.ref a] => match H a with
  | some (.lst xs) => Q (.tup xs) H
  | some (.rol xs) => Q (.tup xs) H
  | _ => False
 | [.tup xs] => Q (.tup xs) H
 | _ => False
theorem c3_tuple : CallR3 X (.type "tuple") r3Tuple:=by
 refine CallR.imp call_tuple_of ?_
 rintro xs H Q ⟨ts,H3,Q3,r,sh,h,k⟩
 match ts,h,r with
 | [.ref a],h,r =>
  obtain ⟨v,rfl,rv⟩:=r.one'
  have h' : (match H3 a with
   | some (.lst xs) => Q3 (.tup xs) H3
   | some (.rol xs) => Q3 (.tup xs) H3
   | _ => False):=h
  split at h'
  ·
   rename_i us e
   obtain ⟨ys,sq,rs⟩:=sh.sqL (.inl e)
   exact ⟨a,ys,by rw [rv.ref],.inl ⟨sq,fun l hl => k _ _ _ _ (upd_tupLe hl) (sh.new hl) (SimH.newTup (H3:=H3) hl rs) h'⟩⟩
  ·
   rename_i us e
   obtain ⟨ys,sq,rs⟩:=sh.sqL (.inr e)
   exact ⟨a,ys,by rw [rv.ref],.inl ⟨sq,fun l hl => k _ _ _ _ (upd_tupLe hl) (sh.new hl) (SimH.newTup (H3:=H3) hl rs) h'⟩⟩
  ·
   exact h'.elim
 | [.tup us],h,r =>
  obtain ⟨v,rfl,rv⟩:=r.one'
  obtain ⟨a,ys,rfl,sq,rs⟩:=rv.tup
  exact ⟨a,ys,rfl,.inr ⟨sq,k _ _ _ _ .refl sh (.ofTup sq rs) h⟩⟩
def r3Int : List T -> Hp3 -> VK3 -> Prop:=fun ts H Q => match ts with
 | [.int i] => Q (.int i) H
 | [.bl b] => Q (.int (if b then 1 else 0)) H
 | _ => False
theorem c3_int' : CallR3 X (.type "int") r3Int:=by
 refine CallR.imp call_int1 ?_
 rintro xs H Q ⟨ts,H3,Q3,r,sh,h,k⟩
 match ts,h,r with
 | [.int i],h,r =>
  obtain ⟨v,rfl,rv⟩:=r.one'
  exact .inl ⟨i,by rw [rv.int],k _ _ _ _ .refl sh .ofInt h⟩
 | [.bl b],h,r =>
  obtain ⟨v,rfl,rv⟩:=r.one'
  exact .inr ⟨b,by rw [rv.bl],k _ _ _ _ .refl sh .ofInt h⟩
def r3Str : List T -> Hp3 -> VK3 -> Prop:=fun ts H Q => match ts with
 | [.int i] => i.natAbs.log2 < 1920 /\ Q (.str (toString i)) H
 | _ => False
noncomputable def ints3 : List T -> Option (List Int)
 | [] => some []
 | .int i :: r => (ints3 r).map (i :: ·)
 | _ => none
theorem ints3_map : ∀ (ns : List Int),ints3 (ns.map T.int) = some ns
 | [] => rfl
 | n :: r => by simp [ints3,ints3_map r]
theorem ints3_vals {K : PySem.W.Frag} {H : Hp} : ∀ {ts : List T} {xs : List V} {us : List Value} {ns : List Int},ints3 ts = some ns -> Reps K H ts xs -> Vals xs us -> IntsAre us ns
 | [],xs,us,ns,e,r,v => by
  cases e
  rw [r.inv0] at v
  cases v
  exact .nil
 | .int i :: l,xs,us,ns,e,r,v => by
  obtain ⟨x,xr,rfl,rx,rr⟩:=r.inv
  cases v with
  | cons a b =>
   rw [rx.int] at a
   obtain ⟨t,rfl⟩:=a
   cases hl : ints3 l with
   | none => simp [ints3,hl] at e
   | some ms =>
    simp [ints3,hl] at e
    subst e
    exact .cons _ _ (ints3_vals hl rr b)
 | .non :: _,_,_,_,e,_,_ => by simp [ints3] at e
 | .bl _ :: _,_,_,_,e,_,_ => by simp [ints3] at e
 | .str _ :: _,_,_,_,e,_,_ => by simp [ints3] at e
 | .tup _ :: _,_,_,_,e,_,_ => by simp [ints3] at e
 | .ref _ :: _,_,_,_,e,_,_ => by simp [ints3] at e
 | .ty _ :: _,_,_,_,e,_,_ => by simp [ints3] at e
def r3Sum : List T -> Hp3 -> VK3 -> Prop:=fun ts H Q => match ts with
 | [.ref a] => match H a with
  | some (.lst xs) => oq (ints3 xs) fun ns => Q (.int ns.sum) H
  | some (.rol xs) => oq (ints3 xs) fun ns => Q (.int ns.sum) H
  | _ => False
 | _ => False
theorem c3_sum (hc : X.calm = true) : CallR3 X (.builtin "sum") r3Sum:=by
 intro pins s σ H xs us Q I rv h
 obtain ⟨ts,H3,Q3,r,sh,h,k⟩:=h
 match ts,h,r with
 | [.ref a],h,r =>
  obtain ⟨v,rfl,rv'⟩:=r.one'
  obtain ⟨u,rfl,ru⟩:=vals1 rv
  rw [rv'.ref] at ru
  cases ru
  have main : ∀ {ls : List T} {ys : List V},SqL X.K H a ys -> Reps X.K H ls ys -> oq (ints3 ls) (fun ns => Q3 (.int ns.sum) H3) -> wpAny (model X.prog X.w) X.A (call (.builtin "sum") [.ref a]) (EP X pins σ Q) X.xe s:=by
   intro ls ys sq rs q
   cases e : ints3 ls with
   | none => rw [e] at q; exact q.elim
   | some ns =>
    rw [e] at q
    obtain ⟨its,rvs,hl,_⟩:=I.list sq
    have hi:=ints3_vals e rs rvs
    have hall : AllInts its.toArray:=hi.allInts
    obtain ⟨zs,ez⟩:=hall.items
    have hls : s.heap.IsList a (intItems zs):=by rw [<- ez]; exact hl.isList
    refine sum_intListG (I.ok.hd hc) hls fun h' tk t' hk => ?_
    have es : preSum (numAt zs) zs.size = ns.sum:=by
     have e1:=nums_intItems zs
     rw [<- ez,show its.toArray.toList = its from rfl,hi.numsOf] at e1
     rw [preSum_eq,List.take_of_length_le (by simp),<- e1]
    rw [es]
    exact ⟨.int ns.sum,H,I.kept hk,⟨t',rfl⟩,k _ _ _ _ .refl sh .ofInt q⟩
  have h' : (match H3 a with
   | some (.lst xs) => oq (ints3 xs) fun ns => Q3 (.int ns.sum) H3
   | some (.rol xs) => oq (ints3 xs) fun ns => Q3 (.int ns.sum) H3
   | _ => False):=h
  split at h'
  ·
   rename_i ls e
   obtain ⟨ys,sq,rs⟩:=sh.sqL (.inl e)
   exact main sq rs h'
  ·
   rename_i ls e
   obtain ⟨ys,sq,rs⟩:=sh.sqL (.inr e)
   exact main sq rs h'
  ·
   exact h'.elim
noncomputable def isT (n : String) : T -> Hp3 -> Option Bool:=fun x H => match x with
 | .non => some (n == "NoneType")
 | .bl _ => some (n == "bool" || n == "int")
 | .int _ => some (n == "int")
 | .str _ => some (n == "str")
 | .tup _ => some (n == "tuple")
 | .ref a => match H a with
  | some (.lst _) => some (n == "list")
  | some (.dct _) => some (n == "dict")
  | _ => none
 | .ty _ => none
def r3Isi : List T -> Hp3 -> VK3 -> Prop:=fun ts H Q => match ts with
 | [x,.ty n] => (n = "str" \/ n = "int" \/ n = "bool" \/ n = "tuple" \/ n = "list") /\ oq (isT n x H) fun b => Q (.bl b) H
 | _ => False
theorem kit_ty (K : PySem.W.Frag) (a b : String) (ha : a = "NoneType" \/ a = "bool" \/ a = "int" \/ a = "str" \/ a = "tuple" \/ a = "list" \/ a = "dict") (hb : b = "str" \/ b = "int" \/ b = "bool" \/ b = "tuple" \/ b = "list") :
  PySem.W.kitOne K (.type a) (.type b) = some (a == b || (a == "bool" && b == "int")):=by
 rcases ha with rfl | rfl | rfl | rfl | rfl | rfl | rfl <;> rcases hb with rfl | rfl | rfl | rfl | rfl <;> rfl
theorem c3_isi : CallR3 X (.builtin "isinstance") r3Isi:=by
 intro pins s σ H xs us Q I rv h
 obtain ⟨ts,H3,Q3,r,sh,h,k⟩:=h
 match ts,h,r with
 | [x,.ty n],h,r =>
  obtain ⟨v,w,rfl,r1,r2⟩:=r.two'
  obtain ⟨u1,u2,rfl,q1,q2⟩:=vals2 rv
  rw [r2.ty] at q2
  cases q2
  obtain ⟨hn,h⟩:=h
  have fin : ∀ {b : Bool},Q3 (.bl b) H3 -> ∀ tk,EP X pins σ Q (.bool b) { s with toks:=tk }:=fun q tk => ⟨.bl _,H,I.tok tk,rfl,k _ _ _ _ .refl sh .ofBl q⟩
  cases x with
  | non => exact isinst_ok I q1 (by rw [r1.non]; exact .non) (kit_ty X.K "NoneType" n (by simp) hn) (fin (by rcases hn with rfl | rfl | rfl | rfl | rfl <;> exact h))
  | bl b => exact isinst_ok I q1 (by rw [r1.bl]; exact .bl b) (kit_ty X.K "bool" n (by simp) hn) (fin (by rcases hn with rfl | rfl | rfl | rfl | rfl <;> exact h))
  | int i => exact isinst_ok I q1 (by rw [r1.int]; exact .int i) (kit_ty X.K "int" n (by simp) hn) (fin (by rcases hn with rfl | rfl | rfl | rfl | rfl <;> exact h))
  | str z => exact isinst_ok I q1 (by rw [r1.str]; exact .str z) (kit_ty X.K "str" n (by simp) hn) (fin (by rcases hn with rfl | rfl | rfl | rfl | rfl <;> exact h))
  | tup us =>
   obtain ⟨a,ys,rfl,sq,rs⟩:=r1.tup
   cases q1
   obtain ⟨its,_,⟨o,h1,h2,_⟩,_⟩:=I.tuple sq
   exact PySem.W.kia_one PySem.W.kitx_tuple I.kIn ⟨o,h1,h2⟩ (kit_ty X.K "tuple" n (by simp) hn) (fun z => nomatch z) (fin (by rcases hn with rfl | rfl | rfl | rfl | rfl <;> exact h))
  | ref a =>
   have h' : oq (match H3 a with
    | some (.lst _) => some (n == "list")
    | some (.dct _) => some (n == "dict")
    | _ => none) fun b => Q3 (.bl b) H3:=h
   rw [r1.ref] at q1
   cases e : H3 a with
   | none => rw [e] at h'; exact h'.elim
   | some o =>
    rw [e] at h'
    cases o with
    | lst ls =>
     obtain ⟨zs,hH,_⟩:=sh a _ e
     exact isinst_ok I q1 (.lst hH) (kit_ty X.K "list" n (by simp) hn) (fin (by rcases hn with rfl | rfl | rfl | rfl | rfl <;> exact h'))
    | dct ls =>
     obtain ⟨zs,hH,_⟩:=sh a _ e
     exact isinst_ok I q1 (.dK hH) (kit_ty X.K "dict" n (by simp) hn) (fin (by rcases hn with rfl | rfl | rfl | rfl | rfl <;> exact h'))
    | rol ls => exact h'.elim
    | dcp ls => exact h'.elim
  | ty m => exact h.elim
variable {o : Expr} {to : TE3} {name : Str} {apos cpos : Pos} {m : T -> List T -> Hp3 -> VK3 -> Prop}
def ty3 (Ty : String) : T -> Hp3 -> Prop:=fun x H => match x with
 | .str _ => Ty = "str"
 | .tup _ => Ty = "tuple"
 | .ref a => Ty = "list" /\ match H a with
  | some (.lst _) => True
  | some (.rol _) => True
  | _ => False
 | _ => False
theorem ty3_V {K : PySem.W.Frag} {H : Hp} {H3 : Hp3} {t : T} {v : V} (sh : SimH K H3 H) (r : Rep K H t v) (h : ty3 Ty t H3) : tyV K Ty v H:=by
 cases t with
 | str z => rw [r.str]; exact h
 | tup ts =>
  obtain ⟨a,xs,rfl,sq,_⟩:=r.tup
  exact .inr (.inl ⟨h,xs,sq⟩)
 | ref a =>
  rw [r.ref]
  refine .inl ⟨h.1,?_⟩
  have h2:=h.2
  cases e : H3 a with
  | none => rw [e] at h2; exact h2.elim
  | some o =>
   rw [e] at h2
   cases o with
   | lst ts => obtain ⟨xs,sq,_⟩:=sh.sqL (.inl e); exact ⟨xs,sq⟩
   | rol ts => obtain ⟨xs,sq,_⟩:=sh.sqL (.inr e); exact ⟨xs,sq⟩
   | dct _ => exact h2.elim
   | dcp _ => exact h2.elim
 | _ => exact h.elim
def tBM3 (Ty : String) (m : T -> List T -> Hp3 -> VK3 -> Prop) (to : TE3) (t : TA3) : TE3:=fun σ H Q => to σ H fun x H1 => ty3 Ty x H1 /\ t σ H1 fun xs H2 => m x xs H2 Q
theorem e3_bm (pa : PlainAttrs Ty) (slot : Slot Ty name id) (hty : typeOf (.builtin id) = pure (.type "method_descriptor")) (hm : MtR3 X id m) (ho : PE3 X o to) (ha : PA3 X (e :: es) t)
  (hbase : attributeBase o name X.env (eval o X.env) = eval o X.env:=by rfl)
  (hfew : ((backTo cpos (starEach (e :: es) X.env)).all (fun x => !x.1) && (backToKw cpos (keywordEach [] X.env)).all (fun x => x.1.isSome)
   && decide ((e :: es).length + ([] : List Keyword).length + (if ([] : List Keyword).isEmpty then 0 else 1) < 30)) = true:=by rfl)
  (hline : (apos.endLine == cpos.line) = true:=by rfl) (hs : starEach (e :: es) X.env = (false,eval e X.env) :: starEach es X.env:=by rfl) (hplain : (backTo cpos (starEach es X.env)).any (·.1) = false:=by rfl) :
  PE3 X (.Call (.Attribute o name apos) (e :: es) [] cpos) (tBM3 Ty m to t):=by
 refine PE.imp (pe_bm pa slot hty hm ho ha hbase hfew hline hs hplain) ?_
 rintro σ H Q ⟨σ3,H3,Q3,ss,sh,h,k⟩
 exact ⟨σ3,H3,_,ss,sh,h,fun x H1 tx H31 le1 sh1 rx q1 => ⟨ty3_V sh1 rx q1.1,σ3,H31,_,ss.mono le1,sh1,q1.2,fun vs H2 ts H32 le2 sh2 rs q2 => ⟨tx,ts,H32,Q3,rx.mono le2,rs,sh2,q2,k.at (le1.trans le2)⟩⟩⟩
def r3App : T -> List T -> Hp3 -> VK3 -> Prop:=fun x ts H Q => match x,ts with
 | .ref a,[t] => match H a with
  | some (.lst xs) => xs.length < sizeLine /\ Q .non (up3 H a (.lst (xs ++ [t])))
  | _ => False
 | _,_ => False
theorem m3_append : MtR3 X "list.append" r3App:=by
 refine MtR.imp mt_append ?_
 rintro x xs H Q ⟨tx,ts,H3,Q3,rx,rs,sh,h,k⟩
 match tx,ts,h,rx,rs with
 | .ref a,[t],h,rx,rs =>
  obtain ⟨v,rfl,rv⟩:=rs.one'
  have h' : (match H3 a with
   | some (.lst xs) => xs.length < sizeLine /\ Q3 .non (up3 H3 a (.lst (xs ++ [t])))
   | _ => False):=h
  split at h'
  ·
   rename_i ls e
   obtain ⟨ys,hH,r⟩:=sh a _ e
   exact ⟨a,ys,v,rx.ref,rfl,hH,by rw [<- r.length]; exact h'.1,k _ _ _ _ (wr_tupLe (by rw [hH]; exact trivial)) (sh.wrL hH (r.append (.cons rv .nil))) .ofNon h'.2⟩
  ·
   exact h'.elim
def r3Ext : T -> List T -> Hp3 -> VK3 -> Prop:=fun x ts H Q => match x,ts with
 | .ref a,[.ref b] => match H a,H b with
  | some (.lst xs),some (.lst ys) => xs.length + ys.length <= sizeLine /\ Q .non (up3 H a (.lst (xs ++ ys)))
  | _,_ => False
 | _,_ => False
theorem m3_extend : MtR3 X "list.extend" r3Ext:=by
 refine MtR.imp mt_extend ?_
 rintro x xs H Q ⟨tx,ts,H3,Q3,rx,rs,sh,h,k⟩
 match tx,ts,h,rx,rs with
 | .ref a,[.ref b],h,rx,rs =>
  obtain ⟨v,rfl,rv⟩:=rs.one'
  have h' : (match H3 a,H3 b with
   | some (.lst xs),some (.lst ys) => xs.length + ys.length <= sizeLine /\ Q3 .non (up3 H3 a (.lst (xs ++ ys)))
   | _,_ => False):=h
  split at h'
  ·
   rename_i ls ms e1 e2
   obtain ⟨ys,hH,r⟩:=sh a _ e1
   obtain ⟨zs,hH2,r2⟩:=sh b _ e2
   exact ⟨a,b,ys,zs,rx.ref,by rw [rv.ref],hH,hH2,by rw [<- r.length,<- r2.length]; exact h'.1,k _ _ _ _ (wr_tupLe (by rw [hH]; exact trivial)) (sh.wrL hH (r.append r2)) .ofNon h'.2⟩
  ·
   exact h'.elim
def r3PopAt : T -> List T -> Hp3 -> VK3 -> Prop:=fun x ts H Q => match x,ts with
 | .ref a,[.int i] => match H a with
  | some (.lst xs) => oq (ixN xs.length i) fun j => oq (xs[j]?) fun t => Q t (up3 H a (.lst (xs.eraseIdx j)))
  | _ => False
 | _,_ => False
theorem m3_popAt : MtR3 X "list.pop" r3PopAt:=by
 intro pins s σ H x xs v us Q I rx0 rs0 hh
 obtain ⟨tx,ts,H3,Q3,rx,rs,sh,h,k⟩:=hh
 refine mt_popAt pins s σ H x xs v us Q I rx0 rs0 ?_
 match tx,ts,h,rx,rs with
 | .ref a,[.int i],h,rx,rs =>
  obtain ⟨w,rfl,rv⟩:=rs.one'
  have h' : (match H3 a with
   | some (.lst xs) => oq (ixN xs.length i) fun j => oq (xs[j]?) fun t => Q3 t (up3 H3 a (.lst (xs.eraseIdx j)))
   | _ => False):=h
  split at h'
  ·
   rename_i ls e
   obtain ⟨ys,hH,r⟩:=sh a _ e
   have hz:=(I.lstM hH).1
   cases ej : ixN ls.length i with
   | none => rw [ej] at h'; exact h'.elim
   | some j =>
    rw [ej] at h'
    cases et : ls[j]? with
    | none => simp only [oq,et] at h'
    | some t =>
     have h2 : Q3 t (up3 H3 a (.lst (ls.eraseIdx j))):=by simpa only [oq,et] using h'
     obtain ⟨g1,g2,g3,g4⟩:=ixN_seq ej
     obtain ⟨y,ey,ry⟩:=r.get et
     have hl:=r.length
     have hb:=line63
     have le : TupLe X.K H (upd H a (.lst (ys.eraseIdx j))):=wr_tupLe (by rw [hH]; exact trivial)
     exact ⟨a,ys,i,j,y,rx.ref,by rw [rv.int],hH,by omega,by omega,by rw [<- hl]; exact g1,ey,k _ _ _ _ le (sh.wrL hH (r.eraseIdx j)) (ry.mono le) h2⟩
  ·
   exact h'.elim
noncomputable def strs3 : List T -> Option (List Str)
 | [] => some []
 | .str x :: r => (strs3 r).map (x :: ·)
 | _ => none
theorem strs3_map : ∀ (ns : List Str),strs3 (ns.map T.str) = some ns
 | [] => rfl
 | n :: r => by simp [strs3,strs3_map r]
theorem strs3_vals {K : PySem.W.Frag} {H : Hp} : ∀ {ts : List T} {xs : List V} {us : List Value} {ns : List Str},strs3 ts = some ns -> Reps K H ts xs -> Vals xs us -> StrsAre us ns
 | [],xs,us,ns,e,r,v => by
  cases e
  rw [r.inv0] at v
  cases v
  exact .nil
 | .str i :: l,xs,us,ns,e,r,v => by
  obtain ⟨x,xr,rfl,rx,rr⟩:=r.inv
  cases v with
  | cons a b =>
   rw [rx.str] at a
   obtain ⟨t,rfl⟩:=a
   cases hl : strs3 l with
   | none => simp [strs3,hl] at e
   | some ms =>
    simp [strs3,hl] at e
    subst e
    exact .cons _ _ (strs3_vals hl rr b)
 | .non :: _,_,_,_,e,_,_ => by simp [strs3] at e
 | .bl _ :: _,_,_,_,e,_,_ => by simp [strs3] at e
 | .int _ :: _,_,_,_,e,_,_ => by simp [strs3] at e
 | .tup _ :: _,_,_,_,e,_,_ => by simp [strs3] at e
 | .ref _ :: _,_,_,_,e,_,_ => by simp [strs3] at e
 | .ty _ :: _,_,_,_,e,_,_ => by simp [strs3] at e
end
end L3
namespace L3
open PySem PySem.Spec PyProof.Rows L2
section
variable {X : Cx}
def jOk (z : Str) (ys : List Str) : Prop:=(ys.map (·.length)).sum + ys.length * z.length <= 16777216
def r3Join : T -> List T -> Hp3 -> VK3 -> Prop:=fun x ts H Q => match x,ts with
 | .str z,[.ref a] => match H a with
  | some (.lst xs) => oq (strs3 xs) fun ys => jOk z ys /\ Q (.str (PySem.Txt.join z ys)) H
  | some (.rol xs) => oq (strs3 xs) fun ys => jOk z ys /\ Q (.str (PySem.Txt.join z ys)) H
  | _ => False
 | .str z,[.tup xs] => oq (strs3 xs) fun ys => jOk z ys /\ Q (.str (PySem.Txt.join z ys)) H
 | _,_ => False
theorem m3_join : MtR3 X "str.join" r3Join:=by
 intro pins s σ H x xs v us Q I rx0 rs0 hh
 obtain ⟨tx,ts,H3,Q3,rx,rs,sh,h,k⟩:=hh
 have fin : ∀ {y : Str},Q3 (.str y) H3 -> ∀ t' kk,EP X pins σ Q (.str y t') { s with toks:=kk }:=fun q t' kk => ⟨.str _,H,I.tok kk,⟨t',rfl⟩,k _ _ _ _ .refl sh .ofStr q⟩
 match tx,ts,h,rx,rs with
 | .str z,[.ref a],h,rx,rs =>
  obtain ⟨w,rfl,rv⟩:=rs.one'
  obtain ⟨u,rfl,ru⟩:=vals1 rs0
  rw [rv.ref] at ru
  cases ru
  rw [rx.str] at rx0
  obtain ⟨t,rfl⟩:=rx0
  have main : ∀ {ls : List T} {ys : List V},SqL X.K H a ys -> Reps X.K H ls ys -> oq (strs3 ls) (fun ys => jOk z ys /\ Q3 (.str (PySem.Txt.join z ys)) H3) -> wpAny (model X.prog X.w) X.A (call (.builtin "str.join") [.str z t,.ref a]) (EP X pins σ Q) X.xe s:=by
   intro ls ys sq r q
   cases e : strs3 ls with
   | none => rw [e] at q; exact q.elim
   | some zs =>
    rw [e] at q
    obtain ⟨its,rvs,hl,_⟩:=I.list sq
    exact join_list hl.isList (strs3_vals e r rvs) q.1 (fin q.2)
  have h' : (match H3 a with
   | some (.lst xs) => oq (strs3 xs) fun ys => jOk z ys /\ Q3 (.str (PySem.Txt.join z ys)) H3
   | some (.rol xs) => oq (strs3 xs) fun ys => jOk z ys /\ Q3 (.str (PySem.Txt.join z ys)) H3
   | _ => False):=h
  split at h'
  ·
   rename_i ls e
   obtain ⟨ys,sq,r⟩:=sh.sqL (.inl e)
   exact main sq r h'
  ·
   rename_i ls e
   obtain ⟨ys,sq,r⟩:=sh.sqL (.inr e)
   exact main sq r h'
  ·
   exact h'.elim
 | .str z,[.tup ls],h,rx,rs =>
  obtain ⟨w,rfl,rv⟩:=rs.one'
  obtain ⟨u,rfl,ru⟩:=vals1 rs0
  obtain ⟨a,ys,rfl,sq,r⟩:=rv.tup
  cases ru
  rw [rx.str] at rx0
  obtain ⟨t,rfl⟩:=rx0
  have q : oq (strs3 ls) (fun ys => jOk z ys /\ Q3 (.str (PySem.Txt.join z ys)) H3):=h
  cases e : strs3 ls with
  | none => rw [e] at q; exact q.elim
  | some zs =>
   rw [e] at q
   obtain ⟨its,rvs,hl,_⟩:=I.tuple sq
   exact join_tuple hl (strs3_vals e r rvs) q.1 (fin q.2)
def r3Index : T -> List T -> Hp3 -> VK3 -> Prop:=fun x ts H Q => match x,ts with
 | .str z,[.str y] => match Builtin.Str.occurrences z y 0 z.length 1 with
  | i :: _ => Q (.int i) H
  | [] => False
 | _,_ => False
theorem m3_index : MtR3 X "str.index" r3Index:=by
 intro pins s σ H x xs v us Q I rx0 rs0 hh
 obtain ⟨tx,ts,H3,Q3,rx,rs,sh,h,k⟩:=hh
 match tx,ts,h,rx,rs with
 | .str z,[.str y],h,rx,rs =>
  obtain ⟨w,rfl,rv⟩:=rs.one'
  obtain ⟨u,rfl,ru⟩:=vals1 rs0
  rw [rv.str] at ru
  obtain ⟨t',rfl⟩:=ru
  rw [rx.str] at rx0
  obtain ⟨t,rfl⟩:=rx0
  have h' : (match Builtin.Str.occurrences z y 0 z.length 1 with
   | i :: _ => Q3 (.int i) H3
   | [] => False):=h
  split at h'
  ·
   rename_i i rest e
   exact SC.index e ⟨.int i,H,I.tok _,⟨_,rfl⟩,k _ _ _ _ .refl sh .ofInt h'⟩
  ·
   exact h'.elim
end
end L3
namespace L3
open PySem PySem.Spec PyProof.Rows L2
noncomputable def compLook (n0 : List (Str × NameKind)) (N : List Str) (kind : Bool) (names : List (Str × NameKind)) (N' : List Str) (nt : Nat) (cap : List Nat) : Bool :=
 kind && names.all (fun y => y.2 != .cell || names.lookup y.1 == some .cell) && names.all (fun x => x.2 != .local || names.lookup x.1 == some .local) && names.all (fun y => y.2 != .free || n0.lookup y.1 == some .cell || n0.lookup y.1 == some .free)
  && N'.length == nt + cap.length && (List.range cap.length).all fun j => match N'[nt + j]?,cap[j]? with
   | some x,some i => N[i]? == some x && names.lookup x == some .free
   | _,_ => false
theorem compSc {X : Cx} {N' : List Str} {nt : Nat} {cap : List Nat} {scope : Scope} {n0 : List (Str × NameKind)} {N : List Str} (h0 : X.env.scope.names = n0) (hN : X.N = N)
  (h : compLook n0 N (scope.kind == .function) scope.names N' nt cap = true) : CompSc X N' nt cap scope:=by
 unfold compLook at h
 simp only [Bool.and_eq_true,List.all_eq_true,beq_iff_eq,bne_iff_ne,Bool.or_eq_true,List.mem_range] at h
 obtain ⟨⟨⟨⟨⟨h1,h2⟩,h3⟩,h4⟩,h5⟩,h6⟩:=h
 refine ⟨h1,fun y hy e => (h2 y hy).resolve_left fun z => z e,fun x hx e => (h3 x hx).resolve_left fun z => z e,fun y hy e => ?_,h5,fun j x e => ?_⟩
 ·
  show X.env.scope.names.lookup y.1 = _ \/ X.env.scope.names.lookup y.1 = _
  rw [h0]
  rcases h4 y hy with (z | z) | z
  ·
   exact absurd e z
  ·
   exact .inl z
  ·
   exact .inr z
 ·
  have hj : j < cap.length:=by
   have:=(List.getElem?_eq_some_iff.mp e).1
   omega
  have q:=h6 j hj
  rw [e] at q
  cases ec : cap[j]? with
  | none => rw [ec] at q; cases q
  | some i =>
   rw [ec] at q
   simp only [Bool.and_eq_true,beq_iff_eq] at q
   exact ⟨i,rfl,by rw [hN]; exact q.1,q.2⟩
structure G3 (K : PySem.W.Frag) (mg : Str -> Option Value) (x : Str) (st : Stmt) (ps : List Str) (f : Addr) (fd : FuncData) : Prop where
 fn : Fun K x x st f fd
 b : Binds K fd ps []
 m : mg x = some (.ref f)
structure Bl (mg : Str -> Option Value) : Prop where
 len_ : mg "len" = none
 sum_ : mg "sum" = none
 isinstance_ : mg "isinstance" = none
 all_ : mg "all" = none
 any_ : mg "any" = none
 list_ : mg "list" = none
 tuple_ : mg "tuple" = none
 int_ : mg "int" = none
 str_ : mg "str" = none
 bool_ : mg "bool" = none
 range_ : mg "range" = none
 zip_ : mg "zip" = none
 reversed_ : mg "reversed" = none
 enumerate_ : mg "enumerate" = none
 set_ : mg "set" = none
 sorted_ : mg "sorted" = none
 min_ : mg "min" = none
 max_ : mg "max" = none
 dict_ : mg "dict" = none
 repr_ : mg "repr" = none
theorem bt_len : bootBuiltins "len" = some (.builtin "len"):=by decide +kernel
theorem bt_sum : bootBuiltins "sum" = some (.builtin "sum"):=by decide +kernel
theorem bt_isinstance : bootBuiltins "isinstance" = some (.builtin "isinstance"):=by decide +kernel
theorem bt_all : bootBuiltins "all" = some (.builtin "all"):=by decide +kernel
theorem bt_any : bootBuiltins "any" = some (.builtin "any"):=by decide +kernel
theorem bt_list : bootBuiltins "list" = some (.type "list"):=by decide +kernel
theorem bt_tuple : bootBuiltins "tuple" = some (.type "tuple"):=by decide +kernel
theorem bt_int : bootBuiltins "int" = some (.type "int"):=by decide +kernel
theorem bt_bool : bootBuiltins "bool" = some (.type "bool"):=by decide +kernel
theorem Room.u30 {k : Nat} {A : Around} (r : Room k A) : A.units + 30 < cLine:=by have:=r.un; omega
theorem Room.u31 {k : Nat} {A : Around} (r : Room k A) : A.units + 31 < cLine:=by have:=r.un; omega
theorem Room.u1 {k : Nat} {A : Around} (r : Room k A) : A.units + 1 < cLine:=by have:=r.un; omega
end L3
namespace L3
open PySem PySem.Spec PyProof.Rows L2
section
variable {H : Hp3} {Q : VK3} {σ : St3}
def vq (o : Option (Option T)) (Q : T -> Prop) : Prop:=match o with
 | some (some t) => Q t
 | _ => False
theorem q_vq (t : T) (Q : T -> Prop) : vq (some (some t)) Q = Q t:=rfl
theorem q_var (i : Nat) : tVar3 i σ H Q = vq (σ[i]?) fun t => Q t H:=rfl
def bq (x : T) (Q : Bool -> Prop) : Prop:=match x with
 | .bl k => Q k
 | _ => False
theorem q_bq (b : Bool) (Q : Bool -> Prop) : bq (.bl b) Q = Q b:=rfl
theorem q_test (t : TE3) (Q : Bool -> Hp3 -> Prop) : tTest3 t σ H Q = t σ H fun x H' => bq x fun k => Q k H':=rfl
theorem q_chain (r r' : R3) (ta tb tc : TE3) : tChain3 r r' ta tb tc σ H Q = ta σ H fun x H1 => tb σ H1 fun y H2 => r x y H2 fun z H3 => bq z fun k => if k = true then tc σ H3 fun w H4 => r' y w H4 Q else Q (.bl false) H3:=rfl
theorem q_andV (ta tb : TE3) : tAndV3 ta tb σ H Q = ta σ H fun x H1 => bq x fun c => if c = true then tb σ H1 Q else Q (.bl false) H1:=rfl
theorem q_orV (ta tb : TE3) : tOrV3 ta tb σ H Q = ta σ H fun x H1 => bq x fun c => if c = true then Q (.bl true) H1 else tb σ H1 Q:=rfl
theorem q_notV (ta : TE3) : tNotV3 ta σ H Q = ta σ H fun x H1 => bq x fun c => Q (.bl (!c)) H1:=rfl
theorem q_oq {α : Type} (v : α) (Q : α -> Prop) : oq (some v) Q = Q v:=rfl
theorem q_I (C : Int -> Int -> Prop) (g : Int -> Int -> T) (i j : Int) : rI3 C g (.int i) (.int j) H Q = (C i j /\ Q (g i j) H):=rfl
theorem q_I0 (g : Int -> Int -> T) (i j : Int) : rI03 g (.int i) (.int j) H Q = Q (g i j) H:=rfl
theorem q_addI (i j : Int) : rAdd3 (.int i) (.int j) H Q = Q (.int (i + j)) H:=rfl
theorem q_addS (i j : Str) : rAdd3 (.str i) (.str j) H Q = (i.length + j.length <= sizeLine /\ Q (.str (i ++ j)) H):=rfl
theorem q_addT (xs ys : List T) : rAdd3 (.tup xs) (.tup ys) H Q = (xs.length + ys.length <= sizeLine /\ Q (.tup (xs ++ ys)) H):=rfl
def catH (o u : Option O3) (H : Hp3) (Q : VK3) : Prop:=match o,u with
 | some (.lst xs),some (.lst ys) => xs.length + ys.length <= sizeLine /\ ∀ p,H p = none -> Q (.ref p) (up3 H p (.lst (xs ++ ys)))
 | _,_ => False
theorem q_addL (a b : Addr) : rAdd3 (.ref a) (.ref b) H Q = catH (H a) (H b) H Q:=rfl
theorem q_catH (xs ys : List T) : catH (some (.lst xs)) (some (.lst ys)) H Q = (xs.length + ys.length <= sizeLine /\ ∀ p,H p = none -> Q (.ref p) (up3 H p (.lst (xs ++ ys)))):=rfl
theorem q_eqI (n : Bool) (i j : Int) : r3Eq n (.int i) (.int j) H Q = Q (.bl (if n then !decide (i = j) else decide (i = j))) H:=rfl
theorem q_eqS (n : Bool) (i j : Str) : r3Eq n (.str i) (.str j) H Q = Q (.bl (if n then !decide (i = j) else decide (i = j))) H:=rfl
theorem q_eqB (n : Bool) (i j : Bool) : r3Eq n (.bl i) (.bl j) H Q = Q (.bl (if n then !decide (i = j) else decide (i = j))) H:=rfl
theorem q_eqT (n : Bool) (xs ys : List T) : r3Eq n (.tup xs) (.tup ys) H Q = (xs.all (pl 20) = true /\ ys.all (pl 20) = true /\ Q (.bl (if n then !decide (xs = ys) else decide (xs = ys))) H):=rfl
def eqH (n : Bool) (a b : Addr) (o u : Option O3) (H : Hp3) (Q : VK3) : Prop:=match o,u with
 | some (.lst xs),some (.lst ys) => a ≠ b /\ xs.all (pl 20) = true /\ ys.all (pl 20) = true /\ Q (.bl (if n then !@decide (xs = ys) (instDecidableEqList xs ys) else @decide (xs = ys) (instDecidableEqList xs ys))) H
 | _,_ => False
theorem q_eqL (n : Bool) (a b : Addr) : r3Eq n (.ref a) (.ref b) H Q = eqH n a b (H a) (H b) H Q:=rfl
theorem q_eqH (n : Bool) (a b : Addr) (xs ys : List T) : eqH n a b (some (.lst xs)) (some (.lst ys)) H Q = (a ≠ b /\ xs.all (pl 20) = true /\ ys.all (pl 20) = true /\ Q (.bl (if n then !decide (xs = ys) else decide (xs = ys))) H):=rfl
theorem q_inT (n : Bool) (x : T) (ts : List T) : r3In n x (.tup ts) H Q = (pl 20 x = true /\ ts.all (pl 20) = true /\ Q (.bl (memB n x ts)) H):=rfl
theorem q_inS (n : Bool) (i j : Str) : r3In n (.str i) (.str j) H Q = Q (.bl (occ n i j)) H:=rfl
def inH (n : Bool) (x : T) (o : Option O3) (H : Hp3) (Q : VK3) : Prop:=match o with
 | some (.lst ts) => pl 20 x = true /\ ts.all (pl 20) = true /\ Q (.bl (memB n x ts)) H
 | some (.rol ts) => pl 20 x = true /\ ts.all (pl 20) = true /\ Q (.bl (memB n x ts)) H
 | _ => False
theorem q_inL (n : Bool) (x : T) (a : Addr) : r3In n x (.ref a) H Q = inH n x (H a) H Q:=rfl
theorem q_inH (n : Bool) (x : T) (ts : List T) : inH n x (some (.lst ts)) H Q = (pl 20 x = true /\ ts.all (pl 20) = true /\ Q (.bl (memB n x ts)) H):=rfl
def ixH (o : Option O3) (i : Int) (H : Hp3) (Q : VK3) : Prop:=match o with
 | some (.lst ts) => oq (atI ts i) fun t => Q t H
 | some (.rol ts) => oq (atI ts i) fun t => Q t H
 | _ => False
theorem q_ixL (a : Addr) (i : Int) : r3Ix (.ref a) (.int i) H Q = ixH (H a) i H Q:=rfl
theorem q_ixH (ts : List T) (i : Int) : ixH (some (.lst ts)) i H Q = oq (atI ts i) fun t => Q t H:=rfl
theorem q_ixT (ts : List T) (i : Int) : r3Ix (.tup ts) (.int i) H Q = oq (atI ts i) fun t => Q t H:=rfl
theorem q_ixS (z : Str) (i : Int) : r3Ix (.str z) (.int i) H Q = (z.length <= sizeLine /\ oq (atI z.cps.toList i) fun c => Q (.str ⟨#[c]⟩) H):=rfl
def stH (o : Option O3) (a : Addr) (k : Int) (v : T) (H : Hp3) (Q : Hp3 -> Prop) : Prop:=match o with
 | some (.lst ts) => oq (ixN ts.length k) fun j => Q (up3 H a (.lst (ts.set j v)))
 | _ => False
theorem q_setL (a : Addr) (k : Int) (v : T) (Q : Hp3 -> Prop) : r3SetL (.ref a) (.int k) v H Q = stH (H a) a k v H Q:=rfl
theorem q_stH (ts : List T) (a : Addr) (k : Int) (v : T) (Q : Hp3 -> Prop) : stH (some (.lst ts)) a k v H Q = oq (ixN ts.length k) fun j => Q (up3 H a (.lst (ts.set j v))):=rfl
def pq (x : T) (Q : Option Int -> Prop) : Prop:=match x with
 | .int i => Q (some i)
 | _ => False
theorem q_pq (i : Int) (Q : Option Int -> Prop) : pq (.int i) Q = Q (some i):=rfl
theorem q_part (t : TE3) (Q : Option Int -> Hp3 -> Prop) : tPart3 t σ H Q = t σ H fun x H1 => pq x fun o => Q o H1:=rfl
def slH (o : Option O3) (lo hi : Option Int) (H : Hp3) (Q : VK3) : Prop:=match o with
 | some (.lst ts) => ∀ p,H p = none -> Q (.ref p) (up3 H p (.lst (cut3 ts lo hi)))
 | some (.rol ts) => ∀ p,H p = none -> Q (.ref p) (up3 H p (.lst (cut3 ts lo hi)))
 | _ => False
theorem q_slL (a : Addr) (lo hi : Option Int) : r3Sl (.ref a) lo hi H Q = slH (H a) lo hi H Q:=rfl
theorem q_slH (ts : List T) (lo hi : Option Int) : slH (some (.lst ts)) lo hi H Q = ∀ p,H p = none -> Q (.ref p) (up3 H p (.lst (cut3 ts lo hi))):=rfl
theorem q_slHr (ts : List T) (lo hi : Option Int) : slH (some (.rol ts)) lo hi H Q = ∀ p,H p = none -> Q (.ref p) (up3 H p (.lst (cut3 ts lo hi))):=rfl
theorem q_slT (ts : List T) (lo hi : Option Int) : r3Sl (.tup ts) lo hi H Q = (¬ (HT.sIx ts.length 0 lo = 0 /\ HT.sIx ts.length ts.length hi = ts.length) /\ Q (.tup (cut3 ts lo hi)) H):=rfl
theorem q_slS (z : Str) (lo hi : Option Int) : r3Sl (.str z) lo hi H Q = (z.length <= sizeLine /\ Q (.str (PySem.Txt.slice z lo hi)) H):=rfl
def dgH (o : Option O3) (k : Str) (H : Hp3) (Q : VK3) : Prop:=match o with
 | some (.dct kvs) => oq (look3 k kvs) fun t => Q t H
 | _ => False
theorem q_D (a : Addr) (k : Str) : r3D (.ref a) (.str k) H Q = dgH (H a) k H Q:=rfl
theorem q_dgH (kvs : List (Str × T)) (k : Str) : dgH (some (.dct kvs)) k H Q = oq (look3 k kvs) fun t => Q t H:=rfl
def dpH (x y v : T) (H : Hp3) (Q : Hp3 -> Prop) : Prop:=match x,y with
 | .ref a,.str k => match H a with
  | some (.dct kvs) => kvs.length < sizeLine /\ Q (up3 H a (.dct (put3 k v kvs)))
  | _ => False
 | _,_ => False
def dpO (o : Option O3) (a : Addr) (k : Str) (v : T) (H : Hp3) (Q : Hp3 -> Prop) : Prop:=match o with
 | some (.dct kvs) => kvs.length < sizeLine /\ Q (up3 H a (.dct (put3 k v kvs)))
 | _ => False
theorem q_dput (td ty tv : TE3) (D : Ends3) : sDPut3 td ty tv D σ H = tv σ H fun v H1 => td σ H1 fun x H2 => ty σ H2 fun y H3 => dpH x y v H3 fun H4 => D.nx σ H4:=rfl
theorem q_dpH (a : Addr) (k : Str) (v : T) (Q : Hp3 -> Prop) : dpH (.ref a) (.str k) v H Q = dpO (H a) a k v H Q:=rfl
theorem q_dpO (kvs : List (Str × T)) (a : Addr) (k : Str) (v : T) (Q : Hp3 -> Prop) : dpO (some (.dct kvs)) a k v H Q = (kvs.length < sizeLine /\ Q (up3 H a (.dct (put3 k v kvs)))):=rfl
def lnH (o : Option O3) (H : Hp3) (Q : VK3) : Prop:=match o with
 | some (.lst xs) => Q (.int xs.length) H
 | some (.rol xs) => Q (.int xs.length) H
 | _ => False
theorem q_lenL (a : Addr) : r3Len [.ref a] H Q = lnH (H a) H Q:=rfl
theorem q_lnH (xs : List T) : lnH (some (.lst xs)) H Q = Q (.int xs.length) H:=rfl
theorem q_lenT (xs : List T) : r3Len [.tup xs] H Q = Q (.int xs.length) H:=rfl
theorem q_lenS (z : Str) : r3Len [.str z] H Q = (z.length <= sizeLine /\ Q (.int z.length) H):=rfl
def liH (o : Option O3) (H : Hp3) (Q : VK3) : Prop:=match o with
 | some (.lst xs) => ∀ p,H p = none -> Q (.ref p) (up3 H p (.lst xs))
 | some (.rol xs) => ∀ p,H p = none -> Q (.ref p) (up3 H p (.lst xs))
 | _ => False
theorem q_listL (a : Addr) : r3List [.ref a] H Q = liH (H a) H Q:=rfl
theorem q_liH (xs : List T) : liH (some (.lst xs)) H Q = ∀ p,H p = none -> Q (.ref p) (up3 H p (.lst xs)):=rfl
theorem q_listT (xs : List T) : r3List [.tup xs] H Q = ∀ p,H p = none -> Q (.ref p) (up3 H p (.lst xs)):=rfl
def tpH (o : Option O3) (H : Hp3) (Q : VK3) : Prop:=match o with
 | some (.lst xs) => Q (.tup xs) H
 | some (.rol xs) => Q (.tup xs) H
 | _ => False
theorem q_tupL (a : Addr) : r3Tuple [.ref a] H Q = tpH (H a) H Q:=rfl
theorem q_tpH (xs : List T) : tpH (some (.lst xs)) H Q = Q (.tup xs) H:=rfl
theorem q_tupT (xs : List T) : r3Tuple [.tup xs] H Q = Q (.tup xs) H:=rfl
theorem q_intI (i : Int) : r3Int [.int i] H Q = Q (.int i) H:=rfl
theorem q_intB (b : Bool) : r3Int [.bl b] H Q = Q (.int (if b then 1 else 0)) H:=rfl
theorem q_strI (i : Int) : r3Str [.int i] H Q = (i.natAbs.log2 < 1920 /\ Q (.str (toString i)) H):=rfl
def smH (o : Option O3) (H : Hp3) (Q : VK3) : Prop:=match o with
 | some (.lst xs) => oq (ints3 xs) fun ns => Q (.int ns.sum) H
 | some (.rol xs) => oq (ints3 xs) fun ns => Q (.int ns.sum) H
 | _ => False
theorem q_sumL (a : Addr) : r3Sum [.ref a] H Q = smH (H a) H Q:=rfl
theorem q_smH (xs : List T) : smH (some (.lst xs)) H Q = oq (ints3 xs) fun ns => Q (.int ns.sum) H:=rfl
theorem q_isi (x : T) (n : String) : r3Isi [x,.ty n] H Q = ((n = "str" \/ n = "int" \/ n = "bool" \/ n = "tuple" \/ n = "list") /\ oq (isT n x H) fun b => Q (.bl b) H):=rfl
theorem q_tyS (Ty : String) (z : Str) : ty3 Ty (.str z) H = (Ty = "str"):=rfl
def tyH (o : Option O3) : Prop:=match o with
 | some (.lst _) => True
 | some (.rol _) => True
 | _ => False
theorem q_tyL (Ty : String) (a : Addr) : ty3 Ty (.ref a) H = (Ty = "list" /\ tyH (H a)):=rfl
theorem q_tyH (xs : List T) : tyH (some (.lst xs)) = True:=rfl
def apH (o : Option O3) (a : Addr) (t : T) (H : Hp3) (Q : VK3) : Prop:=match o with
 | some (.lst xs) => xs.length < sizeLine /\ Q .non (up3 H a (.lst (xs ++ [t])))
 | _ => False
theorem q_app (a : Addr) (t : T) : r3App (.ref a) [t] H Q = apH (H a) a t H Q:=rfl
theorem q_apH (xs : List T) (a : Addr) (t : T) : apH (some (.lst xs)) a t H Q = (xs.length < sizeLine /\ Q .non (up3 H a (.lst (xs ++ [t])))):=rfl
def exH (o u : Option O3) (a : Addr) (H : Hp3) (Q : VK3) : Prop:=match o,u with
 | some (.lst xs),some (.lst ys) => xs.length + ys.length <= sizeLine /\ Q .non (up3 H a (.lst (xs ++ ys)))
 | _,_ => False
theorem q_ext (a b : Addr) : r3Ext (.ref a) [.ref b] H Q = exH (H a) (H b) a H Q:=rfl
theorem q_exH (xs ys : List T) (a : Addr) : exH (some (.lst xs)) (some (.lst ys)) a H Q = (xs.length + ys.length <= sizeLine /\ Q .non (up3 H a (.lst (xs ++ ys)))):=rfl
def poH (o : Option O3) (a : Addr) (i : Int) (H : Hp3) (Q : VK3) : Prop:=match o with
 | some (.lst xs) => oq (ixN xs.length i) fun j => oq (xs[j]?) fun t => Q t (up3 H a (.lst (xs.eraseIdx j)))
 | _ => False
theorem q_pop (a : Addr) (i : Int) : r3PopAt (.ref a) [.int i] H Q = poH (H a) a i H Q:=rfl
theorem q_poH (xs : List T) (a : Addr) (i : Int) : poH (some (.lst xs)) a i H Q = oq (ixN xs.length i) fun j => oq (xs[j]?) fun t => Q t (up3 H a (.lst (xs.eraseIdx j))):=rfl
def joH (o : Option O3) (z : Str) (H : Hp3) (Q : VK3) : Prop:=match o with
 | some (.lst xs) => oq (strs3 xs) fun ys => jOk z ys /\ Q (.str (PySem.Txt.join z ys)) H
 | some (.rol xs) => oq (strs3 xs) fun ys => jOk z ys /\ Q (.str (PySem.Txt.join z ys)) H
 | _ => False
theorem q_joinL (z : Str) (a : Addr) : r3Join (.str z) [.ref a] H Q = joH (H a) z H Q:=rfl
theorem q_joH (xs : List T) (z : Str) : joH (some (.lst xs)) z H Q = oq (strs3 xs) fun ys => jOk z ys /\ Q (.str (PySem.Txt.join z ys)) H:=rfl
theorem q_joinT (z : Str) (xs : List T) : r3Join (.str z) [.tup xs] H Q = oq (strs3 xs) fun ys => jOk z ys /\ Q (.str (PySem.Txt.join z ys)) H:=rfl
def idH (o : List Nat) (H : Hp3) (Q : VK3) : Prop:=match o with
 | i :: _ => Q (.int i) H
 | [] => False
theorem q_index (z y : Str) : r3Index (.str z) [.str y] H Q = idH (Builtin.Str.occurrences z y 0 z.length 1) H Q:=rfl
theorem q_idH (i : Nat) (r : List Nat) : idH (i :: r) H Q = Q (.int i) H:=rfl
def rgq (vs : List T) (H : Hp3) (R : List T -> (Hp3 -> Prop) -> Hp3 -> Prop) : Prop:=match vs with
 | [.int j] => -(2 ^ 62) <= j /\ j < 2 ^ 62 /\ R (rng3 0 j.toNat) still0 H
 | [.int i,.int j] => (-(2 ^ 62) <= i /\ i < 2 ^ 62 /\ -(2 ^ 62) <= j /\ j < 2 ^ 62) /\ R (rng3 i (j - i).toNat) still0 H
 | _ => False
theorem q_rng (ta : TA3) (R : List T -> (Hp3 -> Prop) -> Hp3 -> Prop) : iRng3 ta σ H R = ta σ H fun vs H1 => rgq vs H1 R:=rfl
theorem q_rg1 (j : Int) (R : List T -> (Hp3 -> Prop) -> Hp3 -> Prop) : rgq [.int j] H R = (-(2 ^ 62) <= j /\ j < 2 ^ 62 /\ R (rng3 0 j.toNat) still0 H):=rfl
theorem q_rg2 (i j : Int) (R : List T -> (Hp3 -> Prop) -> Hp3 -> Prop) : rgq [.int i,.int j] H R = ((-(2 ^ 62) <= i /\ i < 2 ^ 62 /\ -(2 ^ 62) <= j /\ j < 2 ^ 62) /\ R (rng3 i (j - i).toNat) still0 H):=rfl
def tuq (x : T) (H : Hp3) (R : List T -> (Hp3 -> Prop) -> Hp3 -> Prop) : Prop:=match x with
 | .tup ts => R ts still0 H
 | _ => False
theorem q_iTup (tl : TE3) (R : List T -> (Hp3 -> Prop) -> Hp3 -> Prop) : iTup3 tl σ H R = tl σ H fun x H1 => tuq x H1 R:=rfl
theorem q_tuq (ts : List T) (R : List T -> (Hp3 -> Prop) -> Hp3 -> Prop) : tuq (.tup ts) H R = R ts still0 H:=rfl
def liq (x : T) (H : Hp3) (R : List T -> (Hp3 -> Prop) -> Hp3 -> Prop) : Prop:=match x with
 | .ref a => match H a with
  | some (.lst ts) => R ts (stillL a ts) H
  | some (.rol ts) => R ts (stillL a ts) H
  | _ => False
 | _ => False
def liO (o : Option O3) (a : Addr) (H : Hp3) (R : List T -> (Hp3 -> Prop) -> Hp3 -> Prop) : Prop:=match o with
 | some (.lst ts) => R ts (stillL a ts) H
 | some (.rol ts) => R ts (stillL a ts) H
 | _ => False
theorem q_iList (tl : TE3) (R : List T -> (Hp3 -> Prop) -> Hp3 -> Prop) : iList3 tl σ H R = tl σ H fun x H1 => liq x H1 R:=rfl
theorem q_liq (a : Addr) (R : List T -> (Hp3 -> Prop) -> Hp3 -> Prop) : liq (.ref a) H R = liO (H a) a H R:=rfl
theorem q_liO (ts : List T) (a : Addr) (R : List T -> (Hp3 -> Prop) -> Hp3 -> Prop) : liO (some (.lst ts)) a H R = R ts (stillL a ts) H:=rfl
theorem q_gNil (Q : St3 -> Hp3 -> Prop) : gNil3 [] σ H Q = Q σ H:=rfl
theorem q_gCons (t : TG3) (u : TGs3) (x : T) (r : List T) (Q : St3 -> Hp3 -> Prop) : gCons3 t u (x :: r) σ H Q = t x σ H fun σ' H' => u r σ' H' Q:=rfl
theorem q_gTup (n : Nat) (g : TGs3) (ts : List T) (Q : St3 -> Hp3 -> Prop) : gTup3 n g (.tup ts) σ H Q = (ts.length = n /\ g ts σ H Q):=rfl
end
theorem ixN_nat {n j : Nat} (h : j < n) : ixN n (j : Int) = some j:=by
 unfold ixN
 rw [if_pos (Int.natCast_nonneg j),if_pos (by omega),Int.toNat_natCast]
theorem ix_z (n : Nat) : ixN (n + 1) 0 = some 0:=ixN_nat (j:=0) (Nat.succ_pos n)
theorem at0 {α : Type} (a : α) (r : List α) : atI (a :: r) 0 = some a:=atI_nat (j:=0) rfl
theorem at1 {α : Type} (a b : α) (r : List α) : atI (a :: b :: r) 1 = some b:=atI_nat (j:=1) rfl
theorem at2 {α : Type} (a b c : α) (r : List α) : atI (a :: b :: c :: r) 2 = some c:=atI_nat (j:=2) rfl
theorem at3 {α : Type} (a b c d : α) (r : List α) : atI (a :: b :: c :: d :: r) 3 = some d:=atI_nat (j:=3) rfl
theorem at_ex {α : Type} (xs : List α) (i : Int) (h0 : 0 <= i) (h1 : i < xs.length) : ∃ z,z ∈ xs /\ atI xs i = some z:=by
 obtain ⟨j,rfl⟩:=Int.eq_ofNat_of_zero_le h0
 have hj : j < xs.length:=by omega
 exact ⟨xs[j],List.getElem_mem hj,atI_nat (List.getElem?_eq_getElem hj)⟩
theorem at_map {α β : Type} (f : α -> β) (xs : List α) (i : Int) : atI (xs.map f) i = (atI xs i).map f:=by
 unfold atI
 rw [List.length_map]
 cases ixN xs.length i with
 | none => rfl
 | some j => simp
theorem iter_go {g : TG3} {tb : TS3} {D : Ends3} {still : Hp3 -> Prop} {ts : List T} {σ : St3} {H : Hp3} (I : List T -> St3 -> Hp3 -> Prop) (h0 : I ts σ H) (hn : ∀ σ H,I [] σ H -> still H /\ D.nx σ H)
  (hs : ∀ t r σ H (N : St3 -> Hp3 -> Prop),I (t :: r) σ H -> (∀ σ' H',I r σ' H' -> N σ' H') -> still H /\ g t σ H fun σ2 H2 => tb { D with nx:=N,ct:=N,bk:=D.nx } σ2 H2) : iter3 g tb D still ts σ H:=by
 induction ts generalizing σ H with
 | nil => exact hn σ H h0
 | cons t r ih => exact hs t r σ H (iter3 g tb D still r) h0 fun σ' H' h => ih h
theorem cIter_go {g : TG3} {tt : TT3} {te : TE3} {still : Hp3 -> Prop} {fin : List T -> Hp3 -> Prop} {ts ys : List T} {σ : St3} {H : Hp3} (I : List T -> List T -> St3 -> Hp3 -> Prop) (h0 : I ts ys σ H) (hn : ∀ ys σ H,I [] ys σ H -> still H /\ ys.length <= sizeLine /\ fin ys H)
  (hs : ∀ t r ys σ H (N : List T -> St3 -> Hp3 -> Prop),I (t :: r) ys σ H -> (∀ ys' σ' H',I r ys' σ' H' -> N ys' σ' H') ->
   still H /\ g t σ H fun σ2 H2 => tt σ2 H2 fun b H3 => if b = true then te σ2 H3 fun y H4 => ys.length < sizeLine /\ N (ys ++ [y]) σ2 H4 else N ys σ2 H3) : cIter3 g tt te still fin ts ys σ H:=by
 induction ts generalizing σ H ys with
 | nil => exact hn ys σ H h0
 | cons t r ih => exact hs t r ys σ H (cIter3 g tt te still fin r) h0 fun ys' σ' H' h => ih h
theorem q_prs0 (σ : St3) (H : Hp3) (Q : List (Str × T) -> Hp3 -> Prop) : prs3 [] σ H Q = Q [] H:=rfl
theorem q_prs1 (k : Str) (tv : TE3) (r : List (Str × TE3)) (σ : St3) (H : Hp3) (Q : List (Str × T) -> Hp3 -> Prop) : prs3 ((k,tv) :: r) σ H Q = tv σ H fun y H2 => prs3 r σ H2 fun ps H3 => Q ((k,y) :: ps) H3:=rfl
theorem sx0 (n : Nat) : HT.sIx n 0 none = 0:=rfl
theorem cut_to {ts : List T} {k : Nat} : cut3 ts none (some (k : Int)) = ts.take k:=by
 unfold cut3
 rw [sx0,HT.sIx_nat,List.drop_zero,Nat.sub_zero]
 by_cases h : k <= ts.length
 ·
  rw [Nat.min_eq_left h]
 ·
  rw [Nat.min_eq_right (by omega),List.take_length,List.take_of_length_le (by omega)]
theorem cut_from {ts : List T} {k : Nat} : cut3 ts (some (k : Int)) none = ts.drop k:=by
 unfold cut3
 rw [HT.sIx_none,HT.sIx_nat]
 by_cases h : k <= ts.length
 ·
  rw [Nat.min_eq_left h,List.take_of_length_le (by simp)]
 ·
  rw [Nat.min_eq_right (by omega),List.drop_of_length_le (Nat.le_refl _),List.drop_of_length_le (by omega),List.take_nil]
theorem up3_none {H : Hp3} {a b : Addr} {o : O3} (h : up3 H a o b = none) : b ≠ a /\ H b = none:=by
 by_cases e : b = a
 ·
  subst e; rw [up3_same] at h; cases h
 ·
  rw [up3_ne e] at h; exact ⟨e,h⟩
end L3
namespace L3
open PySem PySem.Spec PyProof.Rows L2
theorem cIter_pure {α : Type} (enc f : α -> T) (as : List α) (rest : St3) {te : TE3} {still : Hp3 -> Prop} {fin : List T -> Hp3 -> Prop} {v : Option T} {H : Hp3} (hst : still H) (hl : as.length <= sizeLine)
  (ht : ∀ a ∈ as,∀ Q : VK3,Q (f a) H -> te (some (enc a) :: rest) H Q) (hfin : fin (as.map f) H) : cIter3 (gName3 0) tYes3 te still fin (as.map enc) [] (v :: rest) H:=by
 refine cIter_go (fun r ys σ H' => ∃ (rs ds : List α) (v : Option T),σ = v :: rest /\ r = rs.map enc /\ ys = ds.map f /\ ds ++ rs = as /\ H' = H) ⟨as,[],v,rfl,rfl,rfl,rfl,rfl⟩ ?_ ?_
 ·
  rintro ys σ H' ⟨rs,ds,v,rfl,hrs,rfl,hsp,rfl⟩
  have hrs' : rs = []:=List.map_eq_nil_iff.mp hrs.symm
  subst hrs'
  rw [List.append_nil] at hsp
  subst hsp
  exact ⟨hst,by rw [List.length_map]; exact hl,hfin⟩
 ·
  rintro x r ys σ H' N ⟨rs,ds,v,rfl,hrs,rfl,hsp,rfl⟩ hN
  cases rs with
  | nil => cases hrs
  | cons t rs =>
   injection hrs with e1 e2
   subst e1 e2
   refine ⟨hst,?_⟩
   show te (some (enc t) :: rest) H' _
   refine ht t (by rw [<- hsp]; simp) _ ⟨?_,hN _ _ _ ⟨rs,ds ++ [t],_,rfl,rfl,by simp,by rw [<- hsp]; simp,rfl⟩⟩
   have:=congrArg List.length hsp
   simp only [List.length_append,List.length_cons] at this
   rw [List.length_map]
   omega
end L3
namespace L3
open PySem PySem.Spec PyProof.Rows L2
section
variable {X : Cx}
noncomputable def bools3 : List T -> Option (List Bool)
 | [] => some []
 | .bl x :: r => (bools3 r).map (x :: ·)
 | _ => none
theorem bools3_map : ∀ (ns : List Bool),bools3 (ns.map T.bl) = some ns
 | [] => rfl
 | n :: r => by simp [bools3,bools3_map r]
theorem bools3_vals {K : PySem.W.Frag} {H : Hp} : ∀ {ts : List T} {xs : List V} {us : List Value} {bs : List Bool},bools3 ts = some bs -> Reps K H ts xs -> Vals xs us -> us = bs.map Value.bool
 | [],xs,us,bs,e,r,v => by
  cases e
  rw [r.inv0] at v
  cases v
  rfl
 | .bl i :: l,xs,us,bs,e,r,v => by
  obtain ⟨x,xr,rfl,rx,rr⟩:=r.inv
  cases v with
  | cons a b =>
   rw [rx.bl] at a
   cases hl : bools3 l with
   | none => simp [bools3,hl] at e
   | some ms =>
    simp [bools3,hl] at e
    subst e
    cases a
    rw [bools3_vals hl rr b]
    rfl
 | .non :: _,_,_,_,e,_,_ => by simp [bools3] at e
 | .int _ :: _,_,_,_,e,_,_ => by simp [bools3] at e
 | .str _ :: _,_,_,_,e,_,_ => by simp [bools3] at e
 | .tup _ :: _,_,_,_,e,_,_ => by simp [bools3] at e
 | .ref _ :: _,_,_,_,e,_,_ => by simp [bools3] at e
 | .ty _ :: _,_,_,_,e,_,_ => by simp [bools3] at e
def alH (o : Option O3) (H : Hp3) (Q : VK3) : Prop:=match o with
 | some (.lst xs) => oq (bools3 xs) fun bs => Q (.bl (bs.all id)) H
 | some (.rol xs) => oq (bools3 xs) fun bs => Q (.bl (bs.all id)) H
 | _ => False
def r3All : List T -> Hp3 -> VK3 -> Prop:=fun ts H Q => match ts with
 | [.ref a] => alH (H a) H Q
 | _ => False
theorem q_all (a : Addr) {H : Hp3} {Q : VK3} : r3All [.ref a] H Q = alH (H a) H Q:=rfl
theorem q_alH (xs : List T) {H : Hp3} {Q : VK3} : alH (some (.lst xs)) H Q = oq (bools3 xs) fun bs => Q (.bl (bs.all id)) H:=rfl
theorem all_range (bs : List Bool) : (List.range bs.length).all (fun i => bs.getD i true) = bs.all id:=by
 rw [Bool.eq_iff_iff,List.all_eq_true,List.all_eq_true]
 constructor
 ·
  intro h b hb
  obtain ⟨i,hi,rfl⟩:=List.mem_iff_getElem.mp hb
  have:=h i (List.mem_range.mpr hi)
  simpa [List.getD,hi] using this
 ·
  intro h i hi
  have hi':=List.mem_range.mp hi
  have:=h bs[i] (List.getElem_mem hi')
  simpa [List.getD,hi'] using this
theorem c3_all (hc : X.calm = true) : CallR3 X (.builtin "all") r3All:=by
 intro pins s σ H xs us Q I rv h
 obtain ⟨ts,H3,Q3,r,sh,h,k⟩:=h
 match ts,h,r with
 | [.ref a],h,r =>
  obtain ⟨v,rfl,rv'⟩:=r.one'
  obtain ⟨u,rfl,ru⟩:=vals1 rv
  rw [rv'.ref] at ru
  cases ru
  have main : ∀ {ls : List T} {ys : List V},SqL X.K H a ys -> Reps X.K H ls ys -> oq (bools3 ls) (fun bs => Q3 (.bl (bs.all id)) H3) -> wpAny (model X.prog X.w) X.A (call (.builtin "all") [.ref a]) (EP X pins σ Q) X.xe s:=by
   intro ls ys sq rs q
   cases e : bools3 ls with
   | none => rw [e] at q; exact q.elim
   | some bs =>
    rw [e] at q
    obtain ⟨its,rvs,hl,_⟩:=I.list sq
    have hi:=bools3_vals e rs rvs
    subst hi
    have hlI : a ≠ s.heap.objs.size:=fun z => by
     obtain ⟨o,n,eo,_⟩:=hl
     have:=Heap.lt_size eo
     rw [z] at this
     exact Nat.lt_irrefl _ this
    refine call_all_walk (wpAny_pyIter_list hl.isList ?_)
    refine ⟨s.heap.objs.size,_,_,_,_,_,fun i => bs.getD i true,rfl,Walks.list (A:=X.A.in1) (I.ok.hd hc) s.heap.objs.size a hlI (bs.map Value.bool).toArray,⟨⟨_,Heap.get?_push_size _ rfl,rfl,rfl⟩,hl.isList.push _⟩,fun i v s' Q' E' hv hq => ?_,fun h' tk hk => ?_⟩
    ·
     have hv' : (bs.map Value.bool)[i]? = some v:=by simpa using hv
     rw [List.getElem?_map] at hv'
     cases eb : bs[i]? with
     | none => rw [eb] at hv'; cases hv'
     | some b =>
      rw [eb] at hv'
      cases hv'
      have : bs.getD i true = b:=by simp [List.getD,eb]
      dsimp only at hq
      rw [this] at hq
      exact wpAny_truthy_bool hq
    ·
     have hn : (bs.map Value.bool).toArray.size = bs.length:=by simp
     rw [hn,all_range]
     refine ⟨.bl (bs.all id),H,I.kept fun b o e => hk b o (fun z => ?_) (Heap.get?_push_of_some _ e),rfl,k _ _ _ _ .refl sh .ofBl q⟩
     have:=Heap.lt_size e
     rw [List.mem_singleton.mp z] at this
     exact Nat.lt_irrefl _ this
  have h' : alH (H3 a) H3 Q3:=h
  cases eo : H3 a with
  | none => rw [eo] at h'; exact h'.elim
  | some o =>
   rw [eo] at h'
   cases o with
   | lst ls =>
    obtain ⟨ys,sq,rs⟩:=sh.sqL (.inl eo)
    exact main sq rs h'
   | rol ls =>
    obtain ⟨ys,sq,rs⟩:=sh.sqL (.inr eo)
    exact main sq rs h'
   | dct _ => exact h'.elim
   | dcp _ => exact h'.elim
end
end L3
set_option maxHeartbeats 4000000
namespace L3
open PySem PySem.Spec PyProof.Rows L2
section
variable {prog : Program} {w : World} {A : Around} {E : Value -> Shared -> Prop} {s : Shared}
end
end L3
namespace L3
open PySem PySem.Spec PyProof.Rows L2
section
variable {prog : Program} {w : World} {A : Around} {E : Value -> Shared -> Prop} {s : Shared}
end
end L3
namespace L3
open PySem PySem.Spec PyProof.Rows L2
section
variable {prog : Program} {w : World} {A : Around} {E : Value -> Shared -> Prop} {s : Shared}
end
section
variable {prog : Program} {w : World} {A : Around} {E : Value -> Shared -> Prop} {s : Shared}
end
section
variable {prog : Program} {w : World} {A : Around} {E : Value -> Shared -> Prop} {s : Shared}
end
section
variable {X : Cx} {e : Expr} {te : TE} {p1 p2 pos pos' : Pos}
end
end L3
namespace L3
open PySem PySem.Spec PyProof.Rows L2
section
variable {prog : Program} {w : World} {A : Around} {E : Value -> Shared -> Prop} {s : Shared}
theorem tn_item {it t : Addr} {i : Nat} {items : Array Value} {x : Value} {Q : Value -> Shared -> Prop} (hit : s.heap.IsTupleIter it t i) (ht : s.heap.IsTuple t items) (hx : items[i]? = some x)
  (hQ : ∀ h',h'.IsTupleIter it t (i + 1) -> Heap.SameBut it s.heap h' -> Q x { s with heap:=h' }) : wpAny (model prog w) A (Builtin.SmallTypes.nextOf (.ref it)) Q E s:=by
 obtain ⟨o,ho,hc,hd⟩:=id hit
 obtain ⟨ol,hol,_,nl,hdl⟩:=ht
 unfold Builtin.SmallTypes.nextOf
 refine wpAny_bind (wpAny_callSpecial?_slot (name:=Str.ofString "__next__") hit.typeIs F.slot_tuple_iterator_next
  (wpAny_call_entry F.slot_tuple_iterator_next hit.typeIs F.entry_tuple_iterator_next ?_ (F.args_tuple_iterator_next_1 _)))
 show wpAny _ _ (field (.ref it) 0 >>= _) _ _ s
 refine wpAny_bind (wpAny_field ho hd (x:=.ref t) rfl ?_)
 show wpAny _ _ (if (Value.ref t == Value.none) = true then _ else _) _ _ s
 rw [if_neg (show ¬ ((Value.ref t == Value.none) = true) from Bool.false_ne_true)]
 show wpAny _ _ (field (.ref it) 1 >>= _) _ _ s
 refine wpAny_bind (wpAny_field ho hd (x:=.int i 0) rfl ?_)
 show wpAny _ _ (seqItems? (.ref t) >>= _) _ _ s
 refine wpAny_bind (wpAny_seqItems hol hdl ?_)
 simp only [Int.toNat_natCast,hx]
 refine wpAny_bind (wpAny_setField ho hd (by simp) (wpAny_pure ⟨x,rfl,wpAny_pure (hQ _ ?_ (Heap.SameBut.update ..))⟩))
 refine ⟨_,Heap.get?_update_self _ ho (Obj.isFreed_of_fields (Obj.data_mapFields hd _)),(Obj.cls_mapFields ..).trans hc,?_⟩
 rw [Obj.data_mapFields hd]
 simp [rawInt]
theorem tn_end {it t : Addr} {i : Nat} {items : Array Value} {Q : Value -> Shared -> Prop} (hh : A.handled = none) (hit : s.heap.IsTupleIter it t i) (ht : s.heap.IsTuple t items) (hx : items[i]? = none)
  (hE : ∀ h' e,Heap.ExtBut it s.heap h' -> (∃ o,h'.get? e = some o /\ o.cls = .type "StopIteration") -> E (.ref e) { s with heap:=h' }) : wpAny (model prog w) A (Builtin.SmallTypes.nextOf (.ref it)) Q E s:=by
 obtain ⟨o,ho,hc,hd⟩:=id hit
 obtain ⟨ol,hol,_,nl,hdl⟩:=ht
 unfold Builtin.SmallTypes.nextOf
 refine wpAny_bind (wpAny_callSpecial?_slot (name:=Str.ofString "__next__") hit.typeIs F.slot_tuple_iterator_next
  (wpAny_call_entry F.slot_tuple_iterator_next hit.typeIs F.entry_tuple_iterator_next ?_ (F.args_tuple_iterator_next_1 _)))
 show wpAny _ _ (field (.ref it) 0 >>= _) _ _ s
 refine wpAny_bind (wpAny_field ho hd (x:=.ref t) rfl ?_)
 show wpAny _ _ (if (Value.ref t == Value.none) = true then _ else _) _ _ s
 rw [if_neg (show ¬ ((Value.ref t == Value.none) = true) from Bool.false_ne_true)]
 show wpAny _ _ (field (.ref it) 1 >>= _) _ _ s
 refine wpAny_bind (wpAny_field ho hd (x:=.int i 0) rfl ?_)
 show wpAny _ _ (seqItems? (.ref t) >>= _) _ _ s
 refine wpAny_bind (wpAny_seqItems hol hdl ?_)
 simp only [Int.toNat_natCast,hx]
 refine wpAny_bind (wpAny_rule (wpAny_bind (wpAny_setField ho hd (by simp) ?_)))
 show wpAny _ _ (newExc (.type "StopIteration") [] >>= _) _ _ _
 refine wpAny_bind ?_
 simp only [newExc,newTuple]
 refine wpAny_bind (wpAny_newObj_type ?_ (by size_fits))
 refine wpAny_bind (m:=firstArgMember _ _) (wpAny_of_eq (a:=Value.none) (by first | rfl | (simp only [firstArgMember]; rfl)) ?_)
 refine wpAny_newObj_type ?_ (by size_fits)
 simp only [raiseNew]
 refine wpAny_bind (wpAny_handled ?_)
 first | rw [show A.in1.handled = none from hh] | rw [hh]
 refine wpAny_bind (wpAny_pure (wpAny_throw ?_))
 exact hE _ _ (((Heap.SameBut.update ..).extBut.push _).push _) ⟨_,Heap.get?_push_size _ rfl,rfl⟩
end
theorem drawsT {prog : Program} {w : World} {A : Around} (hh : A.handled = none) (it t : Addr) (hne : t ≠ it) (items : Array Value) :
  Draws prog w A it [it,t] items.size (fun i v => items[i]? = some v) (fun i h => h.IsTupleIter it t i /\ h.IsTuple t items) where
 live:=fun _ _ st => let ⟨o,ho,_⟩:=st.1; ⟨o,ho⟩
 frame:=fun _ _ _ st hk => ⟨st.1.at fun o e => hk it (by simp) o e,st.2.at fun o e => hk t (by simp) o e⟩
 item:=fun i s Q E hi st hQ => by
  refine tn_item st.1 st.2 (x:=items[i]) (by simp [hi]) fun h' hit' hs' => ?_
  exact hQ _ h' s.toks (by simp [hi]) ⟨hit',st.2.extBut hs'.extBut hne⟩ hs'
 done:=fun s Q E st hE => tn_end hh st.1 st.2 (by simp) hE
structure ZAp (z ti to i1 i2 : Addr) (f1 f2 : List Addr) : Prop where
 ne : ti ≠ z /\ to ≠ z /\ ti ≠ to /\ i1 ≠ i2
 m1 : i1 ∈ f1
 m2 : i2 ∈ f2
 n1 : z ∉ f1 /\ ti ∉ f1 /\ to ∉ f1 /\ i2 ∉ f1
 n2 : z ∉ f2 /\ ti ∉ f2 /\ to ∉ f2 /\ i1 ∉ f2
section
variable {z ti to i1 i2 : Addr} {f1 f2 : List Addr}
theorem ZAp.i1z (D : ZAp z ti to i1 i2 f1 f2) : i1 ≠ z:=fun e => D.n1.1 (e ▸ D.m1)
theorem ZAp.i2z (D : ZAp z ti to i1 i2 f1 f2) : i2 ≠ z:=fun e => D.n2.1 (e ▸ D.m2)
theorem ZAp.i1ti (D : ZAp z ti to i1 i2 f1 f2) : i1 ≠ ti:=fun e => D.n1.2.1 (e ▸ D.m1)
theorem ZAp.i2ti (D : ZAp z ti to i1 i2 f1 f2) : i2 ≠ ti:=fun e => D.n2.2.1 (e ▸ D.m2)
theorem ZAp.i1to (D : ZAp z ti to i1 i2 f1 f2) : i1 ≠ to:=fun e => D.n1.2.2.1 (e ▸ D.m1)
theorem ZAp.i2to (D : ZAp z ti to i1 i2 f1 f2) : i2 ≠ to:=fun e => D.n2.2.2.1 (e ▸ D.m2)
end
section
variable {prog : Program} {w : World} {A : Around} {E : Value -> Shared -> Prop} {s : Shared} {z ti to i1 i2 : Addr} {f1 f2 : List Addr} {n1 n2 k : Nat} {P1 P2 : Nat -> Value -> Prop} {S1 S2 : Nat -> Heap -> Prop}
theorem z_item {a b : Value} {Q : Value -> Shared -> Prop} (D1 : Draws prog w A i1 f1 n1 P1 S1) (D2 : Draws prog w A i2 f2 n2 P2 S2) (D : ZAp z ti to i1 i2 f1 f2)
  (hz : IsZip s.heap z ti to .none) (hI : IsPair s.heap ti (.ref i1) (.ref i2)) (hO : IsPair s.heap to a b) (h1 : S1 k s.heap) (h2 : S2 k s.heap) (k1 : k < n1) (k2 : k < n2)
  (hQ : ∀ x y h' tk,P1 k x -> P2 k y -> IsZip h' z ti to (rawInt s.heap.objs.size) -> IsPair h' to x y -> S1 (k + 1) h' -> S2 (k + 1) h' -> IsPair h' s.heap.objs.size x y -> h'.objs.size = s.heap.objs.size + 1 ->
   (∀ c o,c ∉ [z,to,i1,i2] -> s.heap.get? c = some o -> h'.get? c = some o) -> Q (.ref s.heap.objs.size) { s with heap:=h',toks:=tk }) :
  wpAny (model prog w) A (Builtin.«zip.__next__» ⟨[.ref z],[]⟩) (fun fin s' => ∃ v,fin = .done (.ret v) /\ Q v s') E s:=by
 show wpAny _ _ (field (.ref z) 2 >>= _) _ _ _
 refine wpAny_bind (wpAny_field hz rfl (x:=.bool false) rfl ?_)
 show wpAny _ _ (field (.ref z) 3 >>= _) _ _ _
 refine wpAny_bind (wpAny_field hz rfl (x:=.ref ti) rfl ?_)
 refine wpAny_bind (wpAny_seqItems hI rfl ?_)
 show wpAny _ _ (Builtin.SmallTypes.ownedTupleIsFree (.ref z) >>= _) _ _ _
 refine wpAny_bind ?_
 unfold Builtin.SmallTypes.ownedTupleIsFree
 refine wpAny_bind (wpAny_field hz rfl (x:=.none) rfl (wpAny_pure ?_))
 simp only [if_true]
 refine wpAny_bind (wpAny_rule ?_)
 refine wpAny_bind (wpAny_field hz rfl (x:=.ref to) rfl ?_)
 refine wpAny_bind (wpAny_setField_rec hz (by simp) fun ha hza hsa => ?_)
 replace hza : IsZip ha z ti to .ellipsis:=hza
 refine wpAny_bind ?_
 simp only [List.zipIdx_cons,List.zipIdx_nil,List.forIn_cons,List.forIn_nil]
 refine wpAny_bind (wpAny_bind (wpAny_onRaise ?_))
 show wpAny _ _ (Builtin.SmallTypes.nextOf (.ref i1) >>= _) _ _ _
 have fr1 : ∀ {i : Nat} {h h' : Heap} {c : Addr},S1 i h -> Heap.SameBut c h h' -> c ∉ f1 -> S1 i h':=fun st sb nc => D1.frame _ _ _ st fun b hb o e => (sb.2 b fun q => nc (q ▸ hb)).trans e
 have fr2 : ∀ {i : Nat} {h h' : Heap} {c : Addr},S2 i h -> Heap.SameBut c h h' -> c ∉ f2 -> S2 i h':=fun st sb nc => D2.frame _ _ _ st fun b hb o e => (sb.2 b fun q => nc (q ▸ hb)).trans e
 refine wpAny_bind (D1.item k _ _ _ k1 (fr1 h1 hsa D.n1.1) fun x hb tb px sb1 hsb => wpAny_pure ?_)
 have hOb : IsPair hb to a b:=(hsb.2 to (Ne.symm D.i1to)).trans ((hsa.2 to D.ne.2.1).trans hO)
 refine wpAny_bind (wpAny_seqItems hOb rfl ?_)
 refine wpAny_bind (wpAny_updateSeq_pair hOb fun hc hOc hsc => ?_)
 replace hOc : IsPair hc to x b:=hOc
 refine wpAny_bind (wpAny_letGo (wpAny_pure ?_))
 refine wpAny_bind (wpAny_bind (wpAny_onRaise ?_))
 show wpAny _ _ (Builtin.SmallTypes.nextOf (.ref i2) >>= _) _ _ _
 have s2c : S2 k hc:=fr2 (fr2 (fr2 h2 hsa D.n2.1) hsb D.n2.2.2.2) hsc D.n2.2.2.1
 refine wpAny_bind (D2.item k _ _ _ k2 s2c fun y hd td py sd2 hsd => wpAny_pure ?_)
 have hOd : IsPair hd to x b:=(hsd.2 to (Ne.symm D.i2to)).trans hOc
 refine wpAny_bind (wpAny_seqItems hOd rfl ?_)
 refine wpAny_bind (wpAny_updateSeq_pair hOd fun he hOe hse => ?_)
 replace hOe : IsPair he to x y:=hOe
 refine wpAny_bind (wpAny_letGo (wpAny_pure (wpAny_pure ?_)))
 refine wpAny_bind (wpAny_seqItems hOe rfl ?_)
 refine wpAny_bind (wpAny_newTuple ?_)
 have hsz : he.objs.size = s.heap.objs.size:=by rw [hse.1,hsd.1,hsc.1,hsb.1,hsa.1]
 have hze : IsZip he z ti to .ellipsis:=(hse.2 z (Ne.symm D.ne.2.1)).trans ((hsd.2 z (Ne.symm D.i2z)).trans ((hsc.2 z (Ne.symm D.ne.2.1)).trans ((hsb.2 z (Ne.symm D.i1z)).trans hza)))
 have hke : ∀ c o,c ∉ [z,to,i1,i2] -> s.heap.get? c = some o -> he.get? c = some o:=fun c o hc e => by
  simp only [List.mem_cons,List.not_mem_nil,or_false,not_or] at hc
  exact (hse.2 c hc.2.1).trans ((hsd.2 c hc.2.2.2).trans ((hsc.2 c hc.2.1).trans ((hsb.2 c hc.2.2.1).trans ((hsa.2 c hc.1).trans e))))
 have s1e : S1 (k + 1) he:=fr1 (fr1 (fr1 sb1 hsc D.n1.2.2.1) hsd D.n1.2.2.2) hse D.n1.2.2.1
 have s2e : S2 (k + 1) he:=fr2 sd2 hse D.n2.2.2.1
 have hzl : z < he.objs.size:=Heap.lt_size hze
 show wpAny _ _ (Builtin.SmallTypes.ownedTupleHandOut (.ref z) (.ref he.objs.size) >>= _) _ _ _
 refine wpAny_bind ?_
 unfold Builtin.SmallTypes.ownedTupleHandOut
 have hzf : IsZip (he.push { cls:=.type "tuple",data:=.seq #[x,y] }) z ti to .ellipsis:=Heap.get?_push_of_some _ hze
 refine wpAny_bind (wpAny_setField_rec hzf (by simp) fun hg hzg hsg => ?_)
 replace hzg : IsZip hg z ti to (rawInt he.objs.size):=hzg
 refine wpAny_setField_rec hzg (by simp) fun hh hzh hsh => ?_
 replace hzh : IsZip hh z ti to (rawInt he.objs.size):=hzh
 have up : ∀ c o,c ≠ z -> he.get? c = some o -> hh.get? c = some o:=fun c o c1 e => (hsh.2 c c1).trans ((hsg.2 c c1).trans (Heap.get?_push_of_some _ e))
 have hTh : IsPair hh he.objs.size x y:=(hsh.2 _ (Nat.ne_of_gt hzl)).trans ((hsg.2 _ (Nat.ne_of_gt hzl)).trans (Heap.get?_push_size _ rfl))
 have hzz : hh.objs.size = he.objs.size + 1:=by rw [hsh.1,hsg.1,Heap.size_push]
 rw [hsz] at hzh hTh hzz
 refine wpAny_pure ⟨_,rfl,?_⟩
 show Q (.ref he.objs.size) _
 rw [hsz]
 exact hQ x y hh _ px py hzh (up _ _ D.ne.2.1 hOe) (D1.frame _ _ _ s1e fun b hb o e => up b o (fun q => D.n1.1 (q ▸ hb)) e) (D2.frame _ _ _ s2e fun b hb o e => up b o (fun q => D.n2.1 (q ▸ hb)) e) hTh hzz fun c o hc e => up c o (fun q => hc (q ▸ List.mem_cons_self)) (hke c o hc e)
end
end L3
namespace L3
open PySem PySem.Spec PyProof.Rows L2
section
variable {prog : Program} {w : World} {A : Around} {E : Value -> Shared -> Prop} {s : Shared} {z ti to i1 i2 : Addr} {f1 f2 : List Addr} {n1 n2 k : Nat} {P1 P2 : Nat -> Value -> Prop} {S1 S2 : Nat -> Heap -> Prop}
theorem z_end {a b : Value} {Q : Fin -> Shared -> Prop} (D1 : Draws prog w A i1 f1 n1 P1 S1) (D2 : Draws prog w A i2 f2 n2 P2 S2) (D : ZAp z ti to i1 i2 f1 f2)
  (hz : IsZip s.heap z ti to .none) (hI : IsPair s.heap ti (.ref i1) (.ref i2)) (hO : IsPair s.heap to a b) (h1 : S1 k s.heap) (h2 : S2 k s.heap) (hk : k = n1 \/ (k < n1 /\ k = n2))
  (hE : ∀ h' e tk,(∀ c o,c ∉ [z,to,i1,i2] -> s.heap.get? c = some o -> h'.get? c = some o) -> (∃ o,h'.get? e = some o /\ o.cls = .type "StopIteration") -> E (.ref e) { s with heap:=h',toks:=tk }) :
  wpAny (model prog w) A (Builtin.«zip.__next__» ⟨[.ref z],[]⟩) Q E s:=by
 show wpAny _ _ (field (.ref z) 2 >>= _) _ _ _
 refine wpAny_bind (wpAny_field hz rfl (x:=.bool false) rfl ?_)
 show wpAny _ _ (field (.ref z) 3 >>= _) _ _ _
 refine wpAny_bind (wpAny_field hz rfl (x:=.ref ti) rfl ?_)
 refine wpAny_bind (wpAny_seqItems hI rfl ?_)
 show wpAny _ _ (Builtin.SmallTypes.ownedTupleIsFree (.ref z) >>= _) _ _ _
 refine wpAny_bind ?_
 unfold Builtin.SmallTypes.ownedTupleIsFree
 refine wpAny_bind (wpAny_field hz rfl (x:=.none) rfl (wpAny_pure ?_))
 simp only [if_true]
 refine wpAny_bind (wpAny_rule ?_)
 refine wpAny_bind (wpAny_field hz rfl (x:=.ref to) rfl ?_)
 refine wpAny_bind (wpAny_setField_rec hz (by simp) fun ha hza hsa => ?_)
 replace hza : IsZip ha z ti to .ellipsis:=hza
 refine wpAny_bind ?_
 simp only [List.zipIdx_cons,List.zipIdx_nil,List.forIn_cons,List.forIn_nil]
 refine wpAny_bind (wpAny_bind (wpAny_onRaise ?_))
 show wpAny _ _ (Builtin.SmallTypes.nextOf (.ref i1) >>= _) _ _ _
 have fr1 : ∀ {i : Nat} {h h' : Heap} {c : Addr},S1 i h -> Heap.SameBut c h h' -> c ∉ f1 -> S1 i h':=fun st sb nc => D1.frame _ _ _ st fun b hb o e => (sb.2 b fun q => nc (q ▸ hb)).trans e
 have fr2 : ∀ {i : Nat} {h h' : Heap} {c : Addr},S2 i h -> Heap.SameBut c h h' -> c ∉ f2 -> S2 i h':=fun st sb nc => D2.frame _ _ _ st fun b hb o e => (sb.2 b fun q => nc (q ▸ hb)).trans e
 rcases hk with rfl | ⟨k1,rfl⟩
 ·
  refine wpAny_bind (D1.done _ _ _ (fr1 h1 hsa D.n1.1) fun hb e hsb ⟨oe,hoe,hce⟩ => ?_)
  have hzb : IsZip hb z ti to .ellipsis:=hsb z _ (Ne.symm D.i1z) hza
  have hez : e ≠ z:=fun x => by subst x; rw [hzb] at hoe; cases hoe; simp at hce
  refine wpAny_setField_rec hzb (by simp) fun hc _ hsc => hE hc e _ (fun c o nc x => ?_) ⟨oe,(hsc.2 e hez).trans hoe,hce⟩
  simp only [List.mem_cons,List.not_mem_nil,or_false,not_or] at nc
  exact (hsc.2 c nc.1).trans (hsb c _ nc.2.2.1 ((hsa.2 c nc.1).trans x))
 ·
  refine wpAny_bind (D1.item k _ _ _ k1 (fr1 h1 hsa D.n1.1) fun x hb tb px sb1 hsb => wpAny_pure ?_)
  have hOb : IsPair hb to a b:=(hsb.2 to (Ne.symm D.i1to)).trans ((hsa.2 to D.ne.2.1).trans hO)
  refine wpAny_bind (wpAny_seqItems hOb rfl ?_)
  refine wpAny_bind (wpAny_updateSeq_pair hOb fun hc hOc hsc => ?_)
  refine wpAny_bind (wpAny_letGo (wpAny_pure ?_))
  refine wpAny_bind (wpAny_bind (wpAny_onRaise ?_))
  show wpAny _ _ (Builtin.SmallTypes.nextOf (.ref i2) >>= _) _ _ _
  have s2c : S2 k hc:=fr2 (fr2 (fr2 h2 hsa D.n2.1) hsb D.n2.2.2.2) hsc D.n2.2.2.1
  refine wpAny_bind (D2.done _ _ _ s2c fun hd e hsd ⟨oe,hoe,hce⟩ => ?_)
  have hzd : IsZip hd z ti to .ellipsis:=hsd z _ (Ne.symm D.i2z) ((hsc.2 z (Ne.symm D.ne.2.1)).trans ((hsb.2 z (Ne.symm D.i1z)).trans hza))
  have hez : e ≠ z:=fun x => by subst x; rw [hzd] at hoe; cases hoe; simp at hce
  refine wpAny_setField_rec hzd (by simp) fun he _ hse => hE he e _ (fun c o nc x => ?_) ⟨oe,(hse.2 e hez).trans hoe,hce⟩
  simp only [List.mem_cons,List.not_mem_nil,or_false,not_or] at nc
  exact (hse.2 c nc.1).trans (hsd c _ nc.2.2.2 ((hsc.2 c nc.2.1).trans ((hsb.2 c nc.2.2.1).trans ((hsa.2 c nc.1).trans x))))
theorem zn_item {a b : Value} {Q : Option Value -> Shared -> Prop} (D1 : Draws prog w A.in1 i1 f1 n1 P1 S1) (D2 : Draws prog w A.in1 i2 f2 n2 P2 S2) (D : ZAp z ti to i1 i2 f1 f2)
  (hz : IsZip s.heap z ti to .none) (hI : IsPair s.heap ti (.ref i1) (.ref i2)) (hO : IsPair s.heap to a b) (h1 : S1 k s.heap) (h2 : S2 k s.heap) (k1 : k < n1) (k2 : k < n2)
  (hQ : ∀ x y h' tk,P1 k x -> P2 k y -> IsZip h' z ti to (rawInt s.heap.objs.size) -> IsPair h' to x y -> S1 (k + 1) h' -> S2 (k + 1) h' -> IsPair h' s.heap.objs.size x y -> h'.objs.size = s.heap.objs.size + 1 ->
   (∀ c o,c ∉ [z,to,i1,i2] -> s.heap.get? c = some o -> h'.get? c = some o) -> Q (some (.ref s.heap.objs.size)) { s with heap:=h',toks:=tk }) : wpAny (model prog w) A (pyNext (.ref z)) Q E s:=by
 have hT : s.TypeIs (.ref z) "zip":=⟨_,hz,rfl⟩
 unfold pyNext
 exact wpAny_bind (wpAny_attempt (wpAny_callSpecial?_slot (name:=Str.ofString "__next__") hT F.slot_zip_next
  (wpAny_call_entry F.slot_zip_next hT F.entry_zip_next (z_item D1 D2 D hz hI hO h1 h2 k1 k2 fun x y h' tk a1 a2 a3 a4 a5 a6 a7 a8 a9 => wpAny_pure (hQ x y h' tk a1 a2 a3 a4 a5 a6 a7 a8 a9)) (F.args_zip_next_1 _))))
theorem zn_end {a b : Value} {Q : Option Value -> Shared -> Prop} (D1 : Draws prog w A.in1 i1 f1 n1 P1 S1) (D2 : Draws prog w A.in1 i2 f2 n2 P2 S2) (D : ZAp z ti to i1 i2 f1 f2)
  (hz : IsZip s.heap z ti to .none) (hI : IsPair s.heap ti (.ref i1) (.ref i2)) (hO : IsPair s.heap to a b) (h1 : S1 k s.heap) (h2 : S2 k s.heap) (hk : k = n1 \/ (k < n1 /\ k = n2))
  (hQ : ∀ h' tk,(∀ c o,c ∉ [z,to,i1,i2] -> s.heap.get? c = some o -> h'.get? c = some o) -> Q none { s with heap:=h',toks:=tk }) : wpAny (model prog w) A (pyNext (.ref z)) Q E s:=by
 have hT : s.TypeIs (.ref z) "zip":=⟨_,hz,rfl⟩
 unfold pyNext
 refine wpAny_bind (wpAny_attempt (wpAny_callSpecial?_slot (name:=Str.ofString "__next__") hT F.slot_zip_next
  (wpAny_call_entry F.slot_zip_next hT F.entry_zip_next (z_end D1 D2 D hz hI hO h1 h2 hk fun h' e tk kp ⟨o,ho,hc⟩ => ?_) (F.args_zip_next_1 _))))
 refine wpAny_bind (wpAny_isInstance (T:="StopIteration") (b:=true) ⟨o,ho,hc⟩ isSubtype_stop ?_)
 exact wpAny_pure (hQ _ _ kp)
end
noncomputable abbrev tiObj (t : Addr) : Obj:={ cls:=.type "tuple_iterator",data:=.fields #[.ref t,.int 0 0] }
theorem meets_zipT (t1 t2 : Addr) (xs ys : Array Value) :
  Meets (Builtin.«zip.__new__» ⟨[.type "zip",.ref t1,.ref t2],[]⟩) (fun _ R s => s.heap.IsTuple t1 xs /\ s.heap.IsTuple t2 ys /\ ∀ h1 h2 h3 h4,h1 = s.heap.push (tiObj t1) -> h2 = h1.push (tiObj t2) -> h3 = h2.push { cls:=.type "tuple",data:=.seq #[.ref s.heap.objs.size,.ref h1.objs.size] } -> h4 = h3.push { cls:=.type "tuple",data:=.seq #[.none,.none] } ->
   R (.ok (.ret (.ref h4.objs.size))) { s with heap:=h4.push { cls:=.type "zip",data:=.fields #[.none,.bool false,.bool false,.ref h2.objs.size,.ref h3.objs.size] } }) :=
 .of_wp fun prog w A R s h => by
  obtain ⟨hp,g,d,tk,os⟩:=s
  obtain ⟨hl1,hl2,h⟩:=h
  have hsub:=sub_zip
  have hL1 : Heap.IsTuple (Shared.heap ⟨hp,g,d,tk,os⟩) t1 xs:=hl1
  have hL2 : Heap.IsTuple (Shared.heap ⟨hp.push { cls:=.type "tuple_iterator",data:=.fields #[.ref t1,.int 0 0] },g,d,tk,os⟩) t2 ys:=let ⟨o,eo,r⟩:=hl2; ⟨o,Heap.get?_push_of_some _ eo,r⟩
  wp_walk using wpAny_pyIter_tuple hL1,wpAny_pyIter_tuple hL2
  exact ⟨_,rfl,h _ _ _ _ rfl rfl rfl rfl⟩
section
variable {prog : Program} {w : World} {A : Around} {E : Value -> Shared -> Prop} {s : Shared}
theorem call_zipT {t1 t2 : Addr} {xs ys : Array Value} {Q : Value -> Shared -> Prop} (hl1 : s.heap.IsTuple t1 xs) (hl2 : s.heap.IsTuple t2 ys)
  (h : ∀ h' i1 i2 ti to z,IsZip h' z ti to .none -> IsPair h' ti (.ref i1) (.ref i2) -> IsPair h' to .none .none -> h'.IsTupleIter i1 t1 0 -> h'.IsTupleIter i2 t2 0 ->
   s.heap.objs.size <= i1 -> i1 < i2 -> i2 < ti -> ti < to -> to < z -> (∀ c o,s.heap.get? c = some o -> h'.get? c = some o) -> Q (.ref z) { s with heap:=h' }) :
  wpAny (model prog w) A (call (.type "zip") [.ref t1,.ref t2]) Q E s:=by
 refine callType_new F.called_zip (by decide) (F.typeCall_zip_2 _ _) (F.newCall_zip_2 _ _) (fun obj => F.args_object_init_3 obj _ _) F.entry_zip_new
  (meets_zipT t1 t2 xs ys) ⟨hl1,hl2,fun h1 h2 h3 h4 e1 e2 e3 e4 => ?_⟩
 have p : ∀ (h : Heap) (o : Obj),h.objs.size < (h.push o).objs.size:=fun h o => by rw [Heap.size_push]; exact Nat.lt_succ_self _
 have g5:=Heap.get?_push_size h4 (o:={ cls:=.type "zip",data:=.fields #[.none,.bool false,.bool false,.ref h2.objs.size,.ref h3.objs.size] }) rfl
 have g4 : h4.get? h3.objs.size = some { cls:=.type "tuple",data:=.seq #[.none,.none] }:=by rw [e4]; exact Heap.get?_push_size _ rfl
 have g3 : h3.get? h2.objs.size = some { cls:=.type "tuple",data:=.seq #[.ref s.heap.objs.size,.ref h1.objs.size] }:=by rw [e3]; exact Heap.get?_push_size _ rfl
 have g2 : h2.get? h1.objs.size = some (tiObj t2):=by rw [e2]; exact Heap.get?_push_size _ rfl
 have g1 : h1.get? s.heap.objs.size = some (tiObj t1):=by rw [e1]; exact Heap.get?_push_size _ rfl
 have u1 : ∀ c o,s.heap.get? c = some o -> h1.get? c = some o:=fun c o q => by rw [e1]; exact Heap.get?_push_of_some _ q
 have u2 : ∀ c o,h1.get? c = some o -> h2.get? c = some o:=fun c o q => by rw [e2]; exact Heap.get?_push_of_some _ q
 have u3 : ∀ c o,h2.get? c = some o -> h3.get? c = some o:=fun c o q => by rw [e3]; exact Heap.get?_push_of_some _ q
 have u4 : ∀ c o,h3.get? c = some o -> h4.get? c = some o:=fun c o q => by rw [e4]; exact Heap.get?_push_of_some _ q
 refine ⟨⟨_,g5,rfl⟩,h _ s.heap.objs.size h1.objs.size h2.objs.size h3.objs.size h4.objs.size g5 (Heap.get?_push_of_some _ (u4 _ _ g3)) (Heap.get?_push_of_some _ g4) ⟨_,Heap.get?_push_of_some _ (u4 _ _ (u3 _ _ (u2 _ _ g1))),rfl,rfl⟩ ⟨_,Heap.get?_push_of_some _ (u4 _ _ (u3 _ _ g2)),rfl,rfl⟩
  (Nat.le_refl _) ?_ ?_ ?_ ?_ fun c o q => Heap.get?_push_of_some _ (u4 _ _ (u3 _ _ (u2 _ _ (u1 _ _ q))))⟩
 ·
  rw [e1]; exact p _ _
 ·
  rw [e2]; exact p _ _
 ·
  rw [e3]; exact p _ _
 ·
  rw [e4]; exact p _ _
end
end L3
namespace L3
open PySem PySem.Spec PyProof.Rows L2
theorem drawsE {prog : Program} {w : World} {A : Around} (hh : A.handled = none) (it t : Addr) (hne : t ≠ it) (items : Array Value) (k : Nat) (hk : items[k]? = none) :
  Draws prog w A it [it,t] k (fun _ _ => True) (fun i h => i = k /\ h.IsTupleIter it t i /\ h.IsTuple t items) where
 live:=fun _ _ st => let ⟨o,ho,_⟩:=st.2.1; ⟨o,ho⟩
 frame:=fun _ _ _ st hk => ⟨st.1,st.2.1.at fun o e => hk it (by simp) o e,st.2.2.at fun o e => hk t (by simp) o e⟩
 item:=fun i s Q E hi st hQ => absurd st.1 (Nat.ne_of_lt hi)
 done:=fun s Q E st hE => tn_end hh st.2.1 st.2.2 hk hE
section
variable {X : Cx} {pins : List (Addr × Obj)} {σ : L2.St} {H : Hp} {s : Shared} {h' : Heap}
theorem turnedL {ch : List Addr} {t' : Nat} (I : Inv X pins σ H s) (k : ∀ b o,b ∉ ch -> s.heap.get? b = some o -> h'.get? b = some o) (hf : ∀ b ∈ ch,FpOk X pins H b) : Inv X pins σ H { s with heap:=h',toks:=t' }:=by
 have nit : ∀ b u,H b = some u -> b ∉ ch:=fun b u e z => by rw [(hf b z).1] at e; cases e
 refine I.step (g':=s.gens) (d':=s.drawn) (ch:=ch) (fun b hb => ?_) (fun b o _ _ hc e _ => k b o hc e) (fun b o _ _ hc e _ => ⟨o.slots,k b o hc e⟩) (fun _ _ _ _ n => n)
  (fun b o hc e => ⟨o,k b o hc e⟩) (fun _ _ e => e) (fun _ _ _ e => e) (fun b ps e => ⟨#[],by rw [e]; simp⟩) (fun m hm => ?_) (fun b u e => ?_) I.bare
 ·
  obtain ⟨_,f1,_,f3,f4,f5⟩:=hf b hb
  exact ⟨f3,f1,f4,f5⟩
 ·
  obtain ⟨o,es,ep,ho,r⟩:=hm
  exact ⟨o,es,ep,k _ o (fun z => (hf _ z).2.1 rfl) ho,r⟩
 ·
  refine (I.hok b u e).stay (fun c v hc q => k c v ?_ q) (fun _ q => q) fun _ _ q => q
  rcases hc with z | z
  ·
   rw [z]; exact nit b u e
  ·
   exact nit c _ z
end
noncomputable def Itz (K : PySem.W.Frag) (a b : Addr) : It :=
 ⟨fun i H => ∃ xs ys x y,SqT K H a xs /\ SqT K H b ys /\ xs[i]? = some x /\ ys[i]? = some y,
  fun i H v H' => ∃ p x y,v = .ref p /\ H p = none /\ H' = upd H p (.tup [x,y]) /\ (∀ xs,SqT K H a xs -> xs[i]? = some x) /\ ∀ ys,SqT K H b ys -> ys[i]? = some y,
  fun i H => ∃ xs ys,SqT K H a xs /\ SqT K H b ys /\ (xs.length <= i \/ ys.length <= i)⟩
def tnZ (a b z ti to i1 i2 : Addr) (i : Nat) (h : Heap) : Prop:=IsZip h z ti to .none /\ IsPair h ti (.ref i1) (.ref i2) /\ (∃ u v,IsPair h to u v) /\ h.IsTupleIter i1 a i /\ h.IsTupleIter i2 b i
theorem nm2 {x p q : Addr} (h1 : x ≠ p) (h2 : x ≠ q) : x ∉ [p,q]:=fun h => by
 rcases List.mem_cons.mp h with e | e
 ·
  exact h1 e
 ·
  exact h2 (List.mem_singleton.mp e)
theorem zap {a b z ti to i1 i2 : Addr} (l1 : a < i1 /\ b < i1) (l2 : i1 < i2) (l3 : i2 < ti) (l4 : ti < to) (l5 : to < z) : ZAp z ti to i1 i2 [i1,a] [i2,b] :=
 have t1 : i1 < ti:=Nat.lt_trans l2 l3
 have t2 : i1 < to:=Nat.lt_trans t1 l4
 have t3 : i1 < z:=Nat.lt_trans t2 l5
 have t4 : i2 < to:=Nat.lt_trans l3 l4
 have t5 : i2 < z:=Nat.lt_trans t4 l5
 have t6 : ti < z:=Nat.lt_trans l4 l5
 ⟨⟨Nat.ne_of_lt t6,Nat.ne_of_lt l5,Nat.ne_of_lt l4,Nat.ne_of_lt l2⟩,List.mem_cons_self,List.mem_cons_self,
  ⟨nm2 (Nat.ne_of_gt t3) (Nat.ne_of_gt (Nat.lt_trans l1.1 t3)),nm2 (Nat.ne_of_gt t1) (Nat.ne_of_gt (Nat.lt_trans l1.1 t1)),nm2 (Nat.ne_of_gt t2) (Nat.ne_of_gt (Nat.lt_trans l1.1 t2)),nm2 (Nat.ne_of_gt l2) (Nat.ne_of_gt (Nat.lt_trans l1.1 l2))⟩,
  ⟨nm2 (Nat.ne_of_gt t5) (Nat.ne_of_gt (Nat.lt_trans l1.2 t3)),nm2 (Nat.ne_of_gt l3) (Nat.ne_of_gt (Nat.lt_trans l1.2 t1)),nm2 (Nat.ne_of_gt t4) (Nat.ne_of_gt (Nat.lt_trans l1.2 t2)),nm2 (Nat.ne_of_lt l2) (Nat.ne_of_gt l1.2)⟩⟩
theorem turn_zip {P : Program} {w : World} {K : PySem.W.Frag} {elts : List Expr} {x1 : Nat} {pos : Pos} (a b z ti to i1 i2 : Addr) (l1 : a < i1 /\ b < i1) (l2 : i1 < i2) (l3 : i2 < ti) (l4 : ti < to) (l5 : to < z) :
  Turn P w K (.Tuple elts x1 pos) (Itz K a b) [z,ti,to,i1,i2] z (tnZ a b z ti to i1 i2) where
 mem:=List.mem_cons_self
 obj:=fun i h st c hc => by
  obtain ⟨hz,hI,⟨u,v,hO⟩,⟨o1,e1,_,d1⟩,⟨o2,e2,_,d2⟩⟩:=st
  simp only [List.mem_cons,List.not_mem_nil,or_false] at hc
  rcases hc with rfl | rfl | rfl | rfl | rfl
  ·
   exact ⟨_,hz,fun v z => by cases z⟩
  ·
   exact ⟨_,hI,fun v z => by cases z⟩
  ·
   exact ⟨_,hO,fun v z => by cases z⟩
  ·
   exact ⟨_,e1,fun v z => by rw [d1] at z; cases z⟩
  ·
   exact ⟨_,e2,fun v z => by rw [d2] at z; cases z⟩
 keep:=fun i h h' st k => by
  obtain ⟨hz,hI,⟨u,v,hO⟩,h1,h2⟩:=st
  exact ⟨k z (by simp) _ hz,k ti (by simp) _ hI,⟨u,v,k to (by simp) _ hO⟩,h1.at fun o e => k i1 (by simp) o e,h2.at fun o e => k i2 (by simp) o e⟩
 item:=by
  intro X hP hw hK hc i pins s σ H E I hf st hg
  subst hP hw hK
  obtain ⟨xs,ys,x,y,qx,qy,ex,ey⟩:=hg
  obtain ⟨its,rv,p1,hz1⟩:=I.tuple qx
  obtain ⟨jts,rw',p2,hz2⟩:=I.tuple qy
  obtain ⟨u,hu,ru⟩:=rv.get ex
  obtain ⟨v,hv,rv'⟩:=rw'.get ey
  have hz:=st.1
  have hI:=st.2.1
  obtain ⟨a0,b0,hO⟩:=st.2.2.1
  have h1:=st.2.2.2.1
  have h2:=st.2.2.2.2
  have hu' : its.toArray[i]? = some u:=by simpa using hu
  have hv' : jts.toArray[i]? = some v:=by simpa using hv
  have D : ZAp z ti to i1 i2 [i1,a] [i2,b]:=zap l1 l2 l3 l4 l5
  have d1:=drawsT (prog:=X.prog) (w:=X.w) (A:=X.A.in1) (I.ok.hd hc) i1 a (Nat.ne_of_lt l1.1) its.toArray
  have d2:=drawsT (prog:=X.prog) (w:=X.w) (A:=X.A.in1) (I.ok.hd hc) i2 b (Nat.ne_of_lt (Nat.lt_trans l1.2 l2)) jts.toArray
  refine zn_item d1 d2 D hz hI hO ⟨h1,p1⟩ ⟨h2,p2⟩ (Array.getElem?_eq_some_iff.mp hu').1 (Array.getElem?_eq_some_iff.mp hv').1 fun x' y' h' tk px py hz' hO' s1 s2 hT hsz kp => ?_
  have e1 : x' = u:=Option.some.inj (px.symm.trans hu')
  have e2 : y' = v:=Option.some.inj (py.symm.trans hv')
  subst e1 e2
  refine ⟨_,rfl,wpAny_letOwnedTupleGo_zip hz' fun h2' hz2' sb => ?_⟩
  have kp2 : ∀ c o,c ∉ [z,to,i1,i2] -> s.heap.get? c = some o -> h2'.get? c = some o:=fun c o nc e => (sb.2 c fun q => nc (q ▸ List.mem_cons_self)).trans (kp c o nc e)
  have hsub : ∀ c ∈ [z,to,i1,i2],c ∈ [z,ti,to,i1,i2]:=fun c hc => by simp only [List.mem_cons,List.not_mem_nil,or_false] at hc ⊢; rcases hc with q | q | q | q <;> simp [q]
  have lt : ∀ {c o},s.heap.get? c = some o -> s.heap.objs.size ≠ c:=fun e => Nat.ne_of_gt (Heap.lt_size e)
  have lt1 : ∀ {c : Addr},c ∈ [z,ti,to,i1,i2] -> c ≠ s.heap.objs.size:=fun {c} hc => by
   simp only [List.mem_cons,List.not_mem_nil,or_false] at hc
   rcases hc with q | q | q | q | q <;> subst q
   ·
    exact Ne.symm (lt hz)
   ·
    exact Ne.symm (lt hI)
   ·
    exact Ne.symm (lt hO)
   ·
    obtain ⟨o,e,_⟩:=h1; exact Ne.symm (lt e)
   ·
    obtain ⟨o,e,_⟩:=h2; exact Ne.symm (lt e)
  have hTz : s.heap.objs.size ≠ z:=lt hz
  have I1 : Inv X pins σ (upd H s.heap.objs.size (.tup [x,y])) { s with heap:=s.heap.push { cls:=.type "tuple",data:=.seq #[x',y'] },toks:=tk } :=
   I.laid (t':=tk) (fun b o e => Heap.get?_push_of_some _ e) (Nat.le_refl _) (show ObjOk X.prog X.w _ _ _ (.tup [x,y]) from ⟨by show 2 <= sizeLine; decide,[x',y'],.cons ru (.cons rv' .nil),Tup0.new _ _⟩)
  have I2 : Inv X pins σ (upd H s.heap.objs.size (.tup [x,y])) { s with heap:=h2',toks:=tk }:=turnedL (s:={ s with heap:=s.heap.push { cls:=.type "tuple",data:=.seq #[x',y'] },toks:=tk }) (ch:=[z,to,i1,i2]) (t':=tk) I1 (fun c o nc e => by
   by_cases q : c = s.heap.objs.size
   ·
    subst q
    have e' : (s.heap.push { cls:=.type "tuple",data:=.seq #[x',y'] }).get? s.heap.objs.size = some o:=e
    rw [Heap.get?_push_size _ rfl] at e'
    cases e'
    exact (sb.2 _ hTz).trans hT
   ·
    have e' : (s.heap.push { cls:=.type "tuple",data:=.seq #[x',y'] }).get? c = some o:=e
    rw [Heap.get?_push_ne _ _ _ q] at e'
    exact kp2 c o nc e') fun c hc => ⟨by rw [upd_ne (lt1 (hsub c hc))]; exact (hf c (hsub c hc)).1,(hf c (hsub c hc)).2⟩
  refine ⟨.ref s.heap.objs.size,_,I2,rfl,⟨s.heap.objs.size,x,y,rfl,I.hok.fresh (Nat.le_refl _),rfl,fun zs hq => by rw [I.tuple_inj hq qx]; exact ex,fun zs hq => by rw [I.tuple_inj hq qy]; exact ey⟩,?_,fun c hc => by rw [upd_ne (lt1 hc)]; exact (hf c hc).1⟩
  have n1 : ti ≠ z:=D.ne.1
  refine ⟨hz2',?_,⟨x',y',(sb.2 to D.ne.2.1).trans hO'⟩,s1.1.at fun o e => (sb.2 i1 D.i1z).trans e,s2.1.at fun o e => (sb.2 i2 D.i2z).trans e⟩
  refine kp2 ti _ ?_ hI
  simp only [List.mem_cons,List.not_mem_nil,or_false,not_or]
  exact ⟨D.ne.1,D.ne.2.2.1,Ne.symm D.i1ti,Ne.symm D.i2ti⟩
 done:=by
  intro X hP hw hK hc i pins s σ H E I hf st hg
  subst hP hw hK
  obtain ⟨xs,ys,qx,qy,hg⟩:=hg
  obtain ⟨its,rv,p1,hz1⟩:=I.tuple qx
  obtain ⟨jts,rw',p2,hz2⟩:=I.tuple qy
  have hz:=st.1
  have hI:=st.2.1
  obtain ⟨a0,b0,hO⟩:=st.2.2.1
  have h1:=st.2.2.2.1
  have h2:=st.2.2.2.2
  have n1:=rv.length
  have n2:=rw'.length
  have D : ZAp z ti to i1 i2 [i1,a] [i2,b]:=zap l1 l2 l3 l4 l5
  have fin : ∀ (h' : Heap) (tk : Nat),(∀ c o,c ∉ [z,to,i1,i2] -> s.heap.get? c = some o -> h'.get? c = some o) -> (none : Option Value) = none /\ Inv X pins σ H { s with heap:=h',toks:=tk }:=fun h' tk kp => ⟨rfl,turnedL I kp fun c hc => hf c (by
   simp only [List.mem_cons,List.not_mem_nil,or_false] at hc ⊢; rcases hc with q | q | q | q <;> simp [q])⟩
  have d1:=drawsT (prog:=X.prog) (w:=X.w) (A:=X.A.in1) (I.ok.hd hc) i1 a (Nat.ne_of_lt l1.1) its.toArray
  have d2:=drawsT (prog:=X.prog) (w:=X.w) (A:=X.A.in1) (I.ok.hd hc) i2 b (Nat.ne_of_lt (Nat.lt_trans l1.2 l2)) jts.toArray
  by_cases hi : xs.length <= i
  ·
   have e1:=drawsE (prog:=X.prog) (w:=X.w) (A:=X.A.in1) (I.ok.hd hc) i1 a (Nat.ne_of_lt l1.1) its.toArray i (by simp; omega)
   exact zn_end (k:=i) e1 d2 D hz hI hO ⟨rfl,h1,p1⟩ ⟨h2,p2⟩ (.inl rfl) fin
  ·
   have hy : ys.length <= i:=hg.resolve_left hi
   have e2:=drawsE (prog:=X.prog) (w:=X.w) (A:=X.A.in1) (I.ok.hd hc) i2 b (Nat.ne_of_lt (Nat.lt_trans l1.2 l2)) jts.toArray i (by simp; omega)
   exact zn_end (k:=i) d1 e2 D hz hI hO ⟨h1,p1⟩ ⟨rfl,h2,p2⟩ (.inr ⟨by simp; omega,rfl⟩) fin
 self:=fun _ _ _ _ _ st h => wpAny_pyIter_zip st.1 h
section
variable {X : Cx} {elts : List Expr} {x1 : Nat} {tpos pos p : Pos} {ea eb : Expr}
def iZip (K : PySem.W.Frag) (t : TA) : TI:=fun σ H R => t σ H fun vs H1 => ∃ a b,vs = [.ref a,.ref b] /\ (∃ xs,SqT K H1 a xs) /\ (∃ ys,SqT K H1 b ys) /\ R (Itz K a b) H1
theorem pi_zip {t : TA} (hg : Gl X "zip") (hm : X.mg "zip" = none) (hv : bootBuiltins "zip" = some (.type "zip")) (ha : PA X [ea,eb] t)
  (hs : starEach [ea,eb] X.env = [(false,eval ea X.env),(false,eval eb X.env)]:=by rfl) (hs2 : starEach [eb] X.env = [(false,eval eb X.env)]:=by rfl) :
  PI X (.Tuple elts x1 tpos) (.Call (.Name "zip" p) [ea,eb] [] pos) (iZip X.K t):=by
 intro pins s σ H R I h
 refine Call_ (ld_blt I hg hm hv (PyProof.Rows.callWith_type1 (thn (ha pos pins s σ H _ I h) fun us s1 ⟨vs,H1,I1,r1,q1⟩ => ?_) (by rw [hs,hs2]) (by rw [hs2]; rfl)))
 obtain ⟨a,b,e,⟨xs,sa⟩,⟨ys,sb⟩,q⟩:=q1
 subst e
 cases r1 with
 | cons r rr =>
  cases rr with
  | cons r' rr =>
   cases rr
   cases r
   cases r'
   obtain ⟨its,rv,p1,hz1⟩:=I1.tuple sa
   obtain ⟨jts,rw',p2,hz2⟩:=I1.tuple sb
   have la : a < s1.heap.objs.size:=by obtain ⟨o,e,_⟩:=p1; exact Heap.lt_size e
   have lb : b < s1.heap.objs.size:=by obtain ⟨o,e,_⟩:=p2; exact Heap.lt_size e
   refine call_zipT p1 p2 fun h' i1 i2 ti to z hz hI hO h1 h2 l0 l1 l2 l3 l4 kp => wpAny_pyIter_zip hz ?_
   have fr : ∀ c,i1 <= c -> FpOk X pins H1 c:=fun c hc => I1.fpOk (Nat.le_trans l0 hc) (I1.hok.fresh (Nat.le_trans l0 hc))
   refine ⟨z,[z,ti,to,i1,i2],_,_,H1,rfl,I1.kept (t':=s1.toks) kp,turn_zip a b z ti to i1 i2 ⟨Nat.lt_of_lt_of_le la l0,Nat.lt_of_lt_of_le lb l0⟩ l1 l2 l3 l4,⟨hz,hI,⟨_,_,hO⟩,h1,h2⟩,fun c hc => fr c ?_,q⟩
   simp only [List.mem_cons,List.not_mem_nil,or_false] at hc
   simp only [Addr] at *
   omega
noncomputable def zip3 : List T -> List T -> List T
 | x :: xs,y :: ys => .tup [x,y] :: zip3 xs ys
 | _,_ => []
theorem zip3_get : ∀ (xs ys : List T) (i : Nat),(zip3 xs ys)[i]? = (match xs[i]?,ys[i]? with
  | some x,some y => some (.tup [x,y])
  | _,_ => none)
 | [],ys,i => by simp [zip3]
 | x :: xs,[],i => by
  simp only [zip3,List.getElem?_nil]
  cases (x :: xs)[i]? <;> rfl
 | x :: xs,y :: ys,0 => by simp [zip3]
 | x :: xs,y :: ys,i + 1 => by simp only [zip3,List.getElem?_cons_succ]; exact zip3_get xs ys i
theorem zip3_len : ∀ (xs ys : List T),(zip3 xs ys).length = min xs.length ys.length
 | [],ys => by simp [zip3]
 | x :: xs,[] => by simp [zip3]
 | x :: xs,y :: ys => by simp [zip3,zip3_len xs ys]
def iZip3 (ta : TA3) : TI3:=fun σ H R => ta σ H fun vs H1 => match vs with
 | [.tup xs,.tup ys] => R (zip3 xs ys) still0 H1
 | _ => False
theorem walk_zip {K : PySem.W.Frag} {H : Hp} {a b : Addr} {ts us : List T} {xs ys : List V} (sa : SqT K H a xs) (ra : Reps K H ts xs) (sb : SqT K H b ys) (rb : Reps K H us ys) : Walk3 K (Itz K a b) (zip3 ts us) still0 H:=fun H' H3' le sh st => by
 have hla:=ra.length
 have hlb:=rb.length
 refine ⟨fun i hi => ⟨xs,ys,le _ _ sa,le _ _ sb,by rw [zip3_len] at hi; omega⟩,fun i t e => ?_⟩
 rw [zip3_get] at e
 cases e1 : ts[i]? with
 | none => rw [e1] at e; cases e
 | some x =>
  cases e2 : us[i]? with
  | none => rw [e1,e2] at e; cases e
  | some y =>
   rw [e1,e2] at e
   cases e
   obtain ⟨v,ev,rv⟩:=ra.get e1
   obtain ⟨v',ev',rv'⟩:=rb.get e2
   refine ⟨⟨xs,ys,v,v',le _ _ sa,le _ _ sb,ev,ev'⟩,fun z H'' yl => ?_⟩
   obtain ⟨p,x',y',rfl,hp,rfl,q1,q2⟩:=yl
   have:=(q1 xs (le _ _ sa)).symm.trans ev
   cases this
   have:=(q2 ys (le _ _ sb)).symm.trans ev'
   cases this
   exact ⟨upd_tupLe hp,sh.new hp,SimH.newTup (H3:=H3') hp (.cons (rv.mono le) (.cons (rv'.mono le) .nil))⟩
theorem bt_zip : bootBuiltins "zip" = some (.type "zip"):=by decide +kernel
theorem i3_zip {ta : TA3} (hg : Gl X "zip") (hm : X.mg "zip" = none) (ha : PA3 X [ea,eb] ta)
  (hs : starEach [ea,eb] X.env = [(false,eval ea X.env),(false,eval eb X.env)]:=by rfl) (hs2 : starEach [eb] X.env = [(false,eval eb X.env)]:=by rfl) :
  PI3 X (.Tuple elts x1 tpos) (.Call (.Name "zip" p) [ea,eb] [] pos) (iZip3 ta):=by
 refine PI.imp (pi_zip hg hm bt_zip ha hs hs2) ?_
 rintro σ H R ⟨σ3,H3,R3,ss,sh,h,k⟩
 refine ⟨σ3,H3,_,ss,sh,h,fun vs H' ts H3' le sh' r q => ?_⟩
 match ts,q,r with
 | [.tup xs,.tup ys],q,r =>
  obtain ⟨v,w,rfl,r1,r2⟩:=r.two'
  obtain ⟨a,us,rfl,sa,ra⟩:=r1.tup
  obtain ⟨b,us',rfl,sb,rb⟩:=r2.tup
  exact ⟨a,b,rfl,⟨_,sa⟩,⟨_,sb⟩,k _ _ still0 H' H3' le sh' (walk_zip sa ra sb rb) q⟩
theorem q_iZip (ta : TA3) {σ : St3} {H : Hp3} {R : List T -> (Hp3 -> Prop) -> Hp3 -> Prop} : iZip3 ta σ H R = ta σ H fun vs H1 => match vs with
 | [.tup xs,.tup ys] => R (zip3 xs ys) still0 H1
 | _ => False:=rfl
end
end L3
set_option maxHeartbeats 1000000
namespace L3
open PySem PySem.Spec PyProof.Rows L2
theorem cIter_pure2 {α : Type} (e1 e2 f : α -> T) (as : List α) (rest : St3) {te : TE3} {still : Hp3 -> Prop} {fin : List T -> Hp3 -> Prop} {v u : Option T} {H : Hp3} (hst : still H) (hl : as.length <= sizeLine)
  (ht : ∀ a ∈ as,∀ Q : VK3,Q (f a) H -> te (some (e1 a) :: some (e2 a) :: rest) H Q) (hfin : fin (as.map f) H) :
  cIter3 (gTup3 2 (gCons3 (gName3 0) (gCons3 (gName3 1) gNil3))) tYes3 te still fin (as.map fun a => .tup [e1 a,e2 a]) [] (v :: u :: rest) H:=by
 refine cIter_go (fun r ys σ H' => ∃ (rs ds : List α) (v u : Option T),σ = v :: u :: rest /\ r = rs.map (fun a => .tup [e1 a,e2 a]) /\ ys = ds.map f /\ ds ++ rs = as /\ H' = H) ⟨as,[],v,u,rfl,rfl,rfl,rfl,rfl⟩ ?_ ?_
 ·
  rintro ys σ H' ⟨rs,ds,v,u,rfl,hrs,rfl,hsp,rfl⟩
  have hrs' : rs = []:=List.map_eq_nil_iff.mp hrs.symm
  subst hrs'
  rw [List.append_nil] at hsp
  subst hsp
  exact ⟨hst,by rw [List.length_map]; exact hl,hfin⟩
 ·
  rintro x r ys σ H' N ⟨rs,ds,v,u,rfl,hrs,rfl,hsp,rfl⟩ hN
  cases rs with
  | nil => cases hrs
  | cons t rs =>
   injection hrs with a1 a2
   subst a1 a2
   refine ⟨hst,rfl,?_⟩
   show te (some (e1 t) :: some (e2 t) :: rest) H' _
   refine ht t (by rw [<- hsp]; simp) _ ⟨?_,hN _ _ _ ⟨rs,ds ++ [t],_,_,rfl,rfl,by simp,by rw [<- hsp]; simp,rfl⟩⟩
   have:=congrArg List.length hsp
   simp only [List.length_append,List.length_cons] at this
   rw [List.length_map]
   omega
theorem zip3_self : ∀ (ts : List T),zip3 ts ts = ts.map fun t => .tup [t,t]
 | [] => rfl
 | t :: r => by rw [zip3,zip3_self r]; rfl
section
variable {H : Hp3} {Q : VK3}
theorem qi_str (x : T) : r3Isi [x,.ty "str"] H Q = oq (isT "str" x H) fun b => Q (.bl b) H:=by rw [q_isi]; exact propext ⟨fun h => h.2,fun h => ⟨by simp,h⟩⟩
theorem it_str_str (x : Str) : isT "str" (.str x) H = some true:=rfl
theorem it_int_str (x : Int) : isT "str" (.int x) H = some false:=rfl
theorem it_tup_str (x : List T) : isT "str" (.tup x) H = some false:=rfl
theorem it_bl_str (x : Bool) : isT "str" (.bl x) H = some false:=rfl
theorem it_non_str  : isT "str" (.non) H = some false:=rfl
theorem qi_int (x : T) : r3Isi [x,.ty "int"] H Q = oq (isT "int" x H) fun b => Q (.bl b) H:=by rw [q_isi]; exact propext ⟨fun h => h.2,fun h => ⟨by simp,h⟩⟩
theorem it_str_int (x : Str) : isT "int" (.str x) H = some false:=rfl
theorem it_int_int (x : Int) : isT "int" (.int x) H = some true:=rfl
theorem it_tup_int (x : List T) : isT "int" (.tup x) H = some false:=rfl
theorem it_bl_int (x : Bool) : isT "int" (.bl x) H = some true:=rfl
theorem it_non_int  : isT "int" (.non) H = some false:=rfl
theorem qi_bool (x : T) : r3Isi [x,.ty "bool"] H Q = oq (isT "bool" x H) fun b => Q (.bl b) H:=by rw [q_isi]; exact propext ⟨fun h => h.2,fun h => ⟨by simp,h⟩⟩
theorem it_str_bool (x : Str) : isT "bool" (.str x) H = some false:=rfl
theorem it_int_bool (x : Int) : isT "bool" (.int x) H = some false:=rfl
theorem it_tup_bool (x : List T) : isT "bool" (.tup x) H = some false:=rfl
theorem it_bl_bool (x : Bool) : isT "bool" (.bl x) H = some true:=rfl
theorem it_non_bool  : isT "bool" (.non) H = some false:=rfl
theorem qi_tuple (x : T) : r3Isi [x,.ty "tuple"] H Q = oq (isT "tuple" x H) fun b => Q (.bl b) H:=by rw [q_isi]; exact propext ⟨fun h => h.2,fun h => ⟨by simp,h⟩⟩
theorem it_str_tuple (x : Str) : isT "tuple" (.str x) H = some false:=rfl
theorem it_int_tuple (x : Int) : isT "tuple" (.int x) H = some false:=rfl
theorem it_tup_tuple (x : List T) : isT "tuple" (.tup x) H = some true:=rfl
theorem it_bl_tuple (x : Bool) : isT "tuple" (.bl x) H = some false:=rfl
theorem it_non_tuple  : isT "tuple" (.non) H = some false:=rfl
theorem qi_list (x : T) : r3Isi [x,.ty "list"] H Q = oq (isT "list" x H) fun b => Q (.bl b) H:=by rw [q_isi]; exact propext ⟨fun h => h.2,fun h => ⟨by simp,h⟩⟩
theorem it_str_list (x : Str) : isT "list" (.str x) H = some false:=rfl
theorem it_int_list (x : Int) : isT "list" (.int x) H = some false:=rfl
theorem it_tup_list (x : List T) : isT "list" (.tup x) H = some false:=rfl
theorem it_bl_list (x : Bool) : isT "list" (.bl x) H = some false:=rfl
theorem it_non_list  : isT "list" (.non) H = some false:=rfl
theorem dec_rfl {α : Type} [DecidableEq α] (a : α) : decide (a = a) = true:=decide_eq_true rfl
end
end L3
set_option maxHeartbeats 4000000
namespace L3
open PySem PySem.Spec PyProof.Rows L2
theorem sc_mk {N P : List Str} {sc : Scope} (a : sc.kind = .function:=by rfl) (b : sc.isCoroutine = false:=by rfl) (c : sc.isGenerator = false:=by rfl) (d : N.Nodup:=by decide +kernel) (e : N.take P.length = P:=by rfl)
 (f : ∀ x ∈ P,sc.names.lookup x = some .local \/ sc.names.lookup x = some .cell:=by decide +kernel) (g : ∀ y ∈ sc.names,y.2 ≠ .free:=by decide +kernel) : FnScope N P sc:=⟨a,b,c,d,e,f,g⟩
structure Cal (P : Program) (w : World) (K : PySem.W.Frag) (mg : Str -> Option Value) (base : Heap) (k : Nat) (x : Str) (st : Stmt) (ps : List Str) (sp : Sp3) : Prop where
 ex : ∃ (f : Addr) (fd : FuncData),G3 K mg x st ps f fd /\ FnOk3 P w K mg base k f fd ps sp
theorem e3_cl0 {X : Cx} {k : Nat} {ps : List Str} {sp : Sp3} {st : Stmt} {x : Str} {p pos : Pos} {e : Expr} {es : List Expr} {t : TA3} (D : Cal X.prog X.w X.K X.mg X.base k x st ps sp) (hr : Room k X.A) (hg : Gl X x)
  (ha : PA3 X (e :: es) t) (hdb : (x == ("__debug__" : Str)) = false:=by decide) (he : starEach (e :: es) X.env = (false,eval e X.env) :: starEach es X.env:=by rfl) (hpl : (backTo pos (starEach es X.env)).any (·.1) = false:=by rfl) :
  PE3 X (.Call (.Name x p) (e :: es) [] pos) (tCall3 sp t):=by
 obtain ⟨f,fd,g,F⟩:=D.ex
 exact e3_call F hr hg g.m g.fn.kp g.b ha hdb he hpl
theorem e3_cl {X : Cx} {k j : Nat} {ps : List Str} {sp : Sp3} {st : Stmt} {x : Str} {p pos : Pos} {e : Expr} {es : List Expr} {t : TA3} (D : Cal X.prog X.w X.K X.mg X.base k x st ps sp) (hr : Room j X.A) (hg : Gl X x) (ha : PA3 X (e :: es) t) (hk : k <= j:=by decide) (hdb : (x == ("__debug__" : Str)) = false:=by decide) (he : starEach (e :: es) X.env = (false,eval e X.env) :: starEach es X.env:=by rfl) (hpl : (backTo pos (starEach es X.env)).any (·.1) = false:=by rfl) : PE3 X (.Call (.Name x p) (e :: es) [] pos) (tCall3 sp t):=e3_cl0 D (hr.mono hk) hg ha hdb he hpl
end L3
set_option maxHeartbeats 1000000
namespace L3
open PySem PySem.Spec PyProof.Rows L2 PySem.Builtin PySem.Builtin.Str
section
variable {prog : Program} {w : World} {A : Around} {E : Value -> Shared -> Prop} {s : Shared} {x y : Str} {t u : Tok} {Q : Value -> Shared -> Prop}
end
section
variable {X : Cx}
theorem s3_dead {st : Stmt} : PS3 X st (fun _ _ _ => False):=fun pins s σ H D I ⟨σ3,H3,D3,ss,sh,h,_⟩ => h.elim
end
end L3
set_option maxHeartbeats 4000000
namespace L3
open PySem PySem.Spec PyProof.Rows L2
section
variable {prog : Program} {w : World} {A : Around} {E : Value -> Shared -> Prop} {s : Shared}
end
section
variable {prog : Program} {w : World} {A : Around} {E : Value -> Shared -> Prop} {s : Shared}
end
end L3
namespace L3
open PySem PySem.Spec PyProof.Rows L2
theorem drawsEL {prog : Program} {w : World} {A : Around} (hh : A.handled = none) (it t : Addr) (hne : t ≠ it) (items : Array Value) (k : Nat) (hk : items[k]? = none) :
  Draws prog w A it [it,t] k (fun _ _ => True) (fun i h => i = k /\ h.IsListIter it t i /\ h.IsList t items) where
 live:=fun _ _ st => let ⟨o,ho,_⟩:=st.2.1; ⟨o,ho⟩
 frame:=fun _ _ _ st hk => ⟨st.1,st.2.1.at fun o e => hk it (by simp) o e,st.2.2.at fun o e => hk t (by simp) o e⟩
 item:=fun i s Q E hi st hQ => absurd st.1 (Nat.ne_of_lt hi)
 done:=fun s Q E st hE => wpAny_nextOf_list_end hh st.2.1 st.2.2 hk hE
end L3
set_option maxHeartbeats 1000000
namespace L3
open PySem PySem.Spec PyProof.Rows L2
section
variable {X : Cx} {elts : List Expr} {x1 j : Nat} {tpos pos p cp kp : Pos} {e : Expr}
theorem bt_enumerate : bootBuiltins "enumerate" = some (.type "enumerate"):=by decide +kernel
end
end L3
set_option maxHeartbeats 4000000
namespace L3
open PySem PySem.Spec PyProof.Rows L2
section
variable {X : Cx} {tg l : Expr}
end
end L3
namespace L3
open PySem PySem.Spec PyProof.Rows L2
section
variable {prog : Program} {w : World} {A : Around} {E : Value -> Shared -> Prop} {s : Shared}
end
end L3
set_option maxHeartbeats 1000000
namespace L3
open PySem PySem.Spec PyProof.Rows L2
section
variable {X : Cx} {e : Expr} {te : TE} {p1 p2 pos pos' : Pos}
end
end L3
namespace L3
open PySem PySem.Spec PyProof.Rows L2
section
variable {X : Cx} {pins : List (Addr × Obj)} {σ : L2.St} {H : Hp} {s : Shared}
end
section
variable {X : Cx}
end
end L3
namespace L3
open PySem PySem.Spec PyProof.Rows L2
section
variable {X : Cx} {a : Expr} {ta : TE3} {pos : Pos}
def ngq (x : T) (H : Hp3) (Q : VK3) : Prop:=match x with
 | .int i => Q (.int (-i)) H
 | _ => False
def tNeg3 (ta : TE3) : TE3:=fun σ H Q => ta σ H fun x H1 => ngq x H1 Q
theorem q_neg (ta : TE3) {σ : St3} {H : Hp3} {Q : VK3} : tNeg3 ta σ H Q = ta σ H fun x H1 => ngq x H1 Q:=rfl
theorem q_ngq (i : Int) {H : Hp3} {Q : VK3} : ngq (.int i) H Q = Q (.int (-i)) H:=rfl
def r3IntT : List T -> Hp3 -> VK3 -> Prop:=fun ts H Q => match ts with
 | [.str x] => x.length <= 640 /\ oq (PySem.intText? x) fun n => Q (.int n) H
 | _ => False
theorem q_intT (x : Str) {H : Hp3} {Q : VK3} : r3IntT [.str x] H Q = (x.length <= 640 /\ oq (PySem.intText? x) fun n => Q (.int n) H):=rfl
end
end L3
set_option maxHeartbeats 4000000
namespace L3
open PySem PySem.Spec PyProof.Rows L2
noncomputable def Ite0 (K : PySem.W.Frag) (a : Addr) : It :=
 ⟨fun i H => ∃ xs x,SqL K H a xs /\ xs[i]? = some x,
  fun i H v H' => ∃ p x,v = .ref p /\ H p = none /\ H' = upd H p (.tup [.int (i : Int),x]) /\ ∀ xs,SqL K H a xs -> xs[i]? = some x,
  fun i H => ∃ xs,SqL K H a xs /\ xs.length <= i⟩
theorem turn_enum0 {P : Program} {w : World} {K : PySem.W.Frag} {elts : List Expr} {x1 : Nat} {pos : Pos} (a it e : Addr) (l1 : a < it) (l2 : it < e) :
  Turn P w K (.Tuple elts x1 pos) (Ite0 K a) [e,it] e (fun i h => (∃ old,IsEnum h e it (i : Int) old) /\ h.IsListIter it a i) where
 mem:=List.mem_cons_self
 obj:=fun i h st c hc => by
  obtain ⟨⟨old,he⟩,⟨o1,e1,_,d1⟩⟩:=st
  simp only [List.mem_cons,List.not_mem_nil,or_false] at hc
  rcases hc with rfl | rfl
  ·
   exact ⟨_,he,fun v z => by cases z⟩
  ·
   exact ⟨_,e1,fun v z => by rw [d1] at z; cases z⟩
 keep:=fun i h h' st k => by
  obtain ⟨⟨old,he⟩,h1⟩:=st
  exact ⟨⟨old,k e (by simp) _ he⟩,h1.at fun o q => k it (by simp) o q⟩
 item:=by
  intro X hP hw hK hc i pins s σ H E I hf st hg
  subst hP hw hK
  obtain ⟨xs,x,hq,hx⟩:=hg
  obtain ⟨its,rv,p,hz⟩:=I.list hq
  obtain ⟨u,hu,ru⟩:=rv.get hx
  obtain ⟨⟨old,he⟩,h1⟩:=st
  have hu' : its.toArray[i]? = some u:=by simpa using hu
  have hai : a ≠ it:=Nat.ne_of_lt l1
  have hei : e ≠ it:=Nat.ne_of_gt l2
  have hea : e ≠ a:=Nat.ne_of_gt (Nat.lt_trans l1 l2)
  have hef : e ∉ [it,a]:=by simp [hei,hea]
  have D:=Draws.list (prog:=X.prog) (w:=X.w) (A:=X.A.in1) (I.ok.hd hc) it a hai its.toArray
  refine wpAny_pyNext_enum_itemD (i:=i) D he ⟨h1,p.isList⟩ (Array.getElem?_eq_some_iff.mp hu').1 hei hef fun x' h' tk px ho hs' hT hsz kp => ?_
  have e1 : x' = u:=Option.some.inj (px.symm.trans hu')
  subst e1
  obtain ⟨hs1,hs2⟩:=hs'
  refine ⟨_,rfl,wpAny_letOwnedTupleGo_enum ho fun h2' hz2' sb => ?_⟩
  have kp2 : ∀ c o,c ∉ [e,it] -> s.heap.get? c = some o -> h2'.get? c = some o:=fun c o nc q => (sb.2 c fun z => nc (z ▸ List.mem_cons_self)).trans (kp c o (fun z => nc (z ▸ List.mem_cons_self)) (fun z => nc (by simp [z])) q)
  have lt : ∀ {c o},s.heap.get? c = some o -> s.heap.objs.size ≠ c:=fun q => Nat.ne_of_gt (Heap.lt_size q)
  have lt1 : ∀ {c : Addr},c ∈ [e,it] -> c ≠ s.heap.objs.size:=fun {c} hc => by
   simp only [List.mem_cons,List.not_mem_nil,or_false] at hc
   rcases hc with q | q <;> subst q
   ·
    exact Ne.symm (lt he)
   ·
    obtain ⟨o,q,_⟩:=h1; exact Ne.symm (lt q)
  have hTe : s.heap.objs.size ≠ e:=lt he
  have I1 : Inv X pins σ (upd H s.heap.objs.size (.tup [.int (i : Int),x])) { s with heap:=s.heap.push { cls:=.type "tuple",data:=.seq #[.int (i : Int) tk,x'] },toks:=tk + 1 } :=
   I.laid (t':=tk + 1) (fun b o q => Heap.get?_push_of_some _ q) (Nat.le_refl _) (show ObjOk X.prog X.w _ _ _ (.tup [.int (i : Int),x]) from ⟨by show 2 <= sizeLine; decide,[.int (i : Int) tk,x'],.cons ⟨tk,rfl⟩ (.cons ru .nil),Tup0.new _ _⟩)
  have I2 : Inv X pins σ (upd H s.heap.objs.size (.tup [.int (i : Int),x])) { s with heap:=h2',toks:=tk + 1 }:=turnedL (s:={ s with heap:=s.heap.push { cls:=.type "tuple",data:=.seq #[.int (i : Int) tk,x'] },toks:=tk + 1 }) (ch:=[e,it]) (t':=tk + 1) I1 (fun c o nc q => by
   by_cases z : c = s.heap.objs.size
   ·
    subst z
    have q' : (s.heap.push { cls:=.type "tuple",data:=.seq #[.int (i : Int) tk,x'] }).get? s.heap.objs.size = some o:=q
    rw [Heap.get?_push_size _ rfl] at q'
    cases q'
    exact (sb.2 _ hTe).trans hT
   ·
    have q' : (s.heap.push { cls:=.type "tuple",data:=.seq #[.int (i : Int) tk,x'] }).get? c = some o:=q
    rw [Heap.get?_push_ne _ _ _ z] at q'
    exact kp2 c o nc q') fun c hc => ⟨by rw [upd_ne (lt1 hc)]; exact (hf c hc).1,(hf c hc).2⟩
  refine ⟨.ref s.heap.objs.size,_,I2,rfl,⟨s.heap.objs.size,x,rfl,I.hok.fresh (Nat.le_refl _),rfl,fun zs hq' => by rw [I.list_inj hq' hq]; exact hx⟩,⟨⟨x',?_⟩,hs1.at fun o q => (sb.2 it (Ne.symm hei)).trans q⟩,fun c hc => by rw [upd_ne (lt1 hc)]; exact (hf c hc).1⟩
  exact hz2'
 done:=by
  intro X hP hw hK hc i pins s σ H E I hf st hg
  subst hP hw hK
  obtain ⟨xs,hq,hx⟩:=hg
  obtain ⟨its,rv,p,hz⟩:=I.list hq
  obtain ⟨⟨old,he⟩,h1⟩:=st
  have hl:=rv.length
  have hai : a ≠ it:=Nat.ne_of_lt l1
  have D:=drawsEL (prog:=X.prog) (w:=X.w) (A:=X.A.in1) (I.ok.hd hc) it a hai its.toArray i (by simp; omega)
  exact wpAny_pyNext_enum_endD D he ⟨rfl,h1,p.isList⟩ fun h' eb => ⟨rfl,turnedL (ch:=[e,it]) (t':=s.toks) I (fun b o nb q => eb b o (fun z => nb (by simp [z])) q) hf⟩
 self:=fun _ _ _ _ _ st h => wpAny_pyIter_enum st.1.choose_spec h
section
variable {X : Cx} {elts : List Expr} {x1 : Nat} {tpos pos p : Pos} {e : Expr}
def iEnum0 (K : PySem.W.Frag) (te : TE) : TI:=fun σ H R => te σ H fun x H1 => ∃ a,x = .ref a /\ (∃ xs,H1 a = some (.lst xs)) /\ R (Ite0 K a) H1
theorem pi_enum0 {te : TE} (hg : Gl X "enumerate") (hm : X.mg "enumerate" = none) (he : PE X e te)
  (hs : starEach [e] X.env = (false,eval e X.env) :: starEach [] X.env:=by rfl) (hpl : (backTo pos (starEach [] X.env)).any (·.1) = false:=by rfl) :
  PI X (.Tuple elts x1 tpos) (.Call (.Name "enumerate" p) [e] [] pos) (iEnum0 X.K te):=by
 intro pins s σ H R I h
 refine wpAny_Call_Name_kw (ld_blt I hg hm bt_enumerate ?_ (by decide) (by decide))
 refine PyProof.Rows.callWith_type1 ?_ hs hpl
 rw [hs]
 show wpAny _ _ (spliced ((false,eval e X.env) :: backTo pos (starEach [] X.env))) _ _ s
 refine Calls.spliced_cons (thn (he pins s σ H _ I h) fun u s2 ⟨x,H2,I2,r1,a,ea,⟨xs,hl⟩,q⟩ => ?_)
 subst ea
 cases r1
 refine Calls.spliced_nil ?_
 obtain ⟨hz,its,n,rv,ho⟩:=I2.hok a _ hl
 have la : a < s2.heap.objs.size:=Heap.lt_size ho
 refine call_enumerate_list ⟨_,ho,rfl,n,rfl⟩ fun h' hE hL l1 kp => wpAny_pyIter_enum hE ?_
 refine ⟨s2.heap.objs.size + 1,[s2.heap.objs.size + 1,s2.heap.objs.size],_,_,H2,rfl,I2.kept (t':=s2.toks) kp,turn_enum0 a s2.heap.objs.size (s2.heap.objs.size + 1) la (Nat.lt_succ_self _),⟨⟨.none,hE⟩,hL⟩,fun c hc => ?_,q⟩
 have hc' : s2.heap.objs.size <= c:=by
  simp only [List.mem_cons,List.not_mem_nil,or_false] at hc
  rcases hc with z | z <;> subst z
  ·
   exact Nat.le_succ _
  ·
   exact Nat.le_refl _
 exact I2.fpOk hc' (I2.hok.fresh hc')
noncomputable def enum0 (k : Int) : List T -> List T
 | [] => []
 | x :: r => .tup [.int k,x] :: enum0 (k + 1) r
theorem enum0_get : ∀ (k : Int) (xs : List T) (i : Nat),(enum0 k xs)[i]? = xs[i]?.map fun x => .tup [.int (k + i),x]
 | _,[],i => by simp [enum0]
 | k,x :: xs,0 => by simp [enum0]
 | k,x :: xs,i + 1 => by
  simp only [enum0,List.getElem?_cons_succ]
  rw [enum0_get (k + 1) xs i]
  have : k + 1 + (i : Int) = k + ((i + 1 : Nat) : Int):=by omega
  rw [this]
theorem enum0_len : ∀ (k : Int) (xs : List T),(enum0 k xs).length = xs.length
 | _,[] => rfl
 | k,x :: xs => by simp [enum0,enum0_len (k + 1) xs]
def en0H (o : Option O3) (a : Addr) (H : Hp3) (R : List T -> (Hp3 -> Prop) -> Hp3 -> Prop) : Prop:=match o with
 | some (.lst ts) => R (enum0 0 ts) (stillL a ts) H
 | _ => False
def en0q (x : T) (H : Hp3) (R : List T -> (Hp3 -> Prop) -> Hp3 -> Prop) : Prop:=match x with
 | .ref a => en0H (H a) a H R
 | _ => False
def iEnum03 (te : TE3) : TI3:=fun σ H R => te σ H fun x H1 => en0q x H1 R
theorem q_iEnum0 (te : TE3) {σ : St3} {H : Hp3} {R : List T -> (Hp3 -> Prop) -> Hp3 -> Prop} : iEnum03 te σ H R = te σ H fun x H1 => en0q x H1 R:=rfl
theorem q_en0q (a : Addr) {H : Hp3} {R : List T -> (Hp3 -> Prop) -> Hp3 -> Prop} : en0q (.ref a) H R = en0H (H a) a H R:=rfl
theorem q_en0H (ts : List T) (a : Addr) {H : Hp3} {R : List T -> (Hp3 -> Prop) -> Hp3 -> Prop} : en0H (some (.lst ts)) a H R = R (enum0 0 ts) (stillL a ts) H:=rfl
theorem walk_enum0 {K : PySem.W.Frag} {H : Hp} {a : Addr} {ts : List T} : Walk3 K (Ite0 K a) (enum0 0 ts) (stillL a ts) H:=fun H' H3' le sh st => by
 obtain ⟨xs,sq,rs⟩:=sh.sqL st
 have hl:=rs.length
 refine ⟨fun i hi => ⟨xs,sq,by rw [enum0_len] at hi; omega⟩,fun i t e => ?_⟩
 rw [enum0_get] at e
 cases q : ts[i]? with
 | none => rw [q] at e; cases e
 | some x =>
  rw [q] at e
  cases e
  obtain ⟨v,ev,rv⟩:=rs.get q
  refine ⟨⟨xs,v,sq,ev⟩,fun z H'' y => ?_⟩
  obtain ⟨p,x',rfl,hp,rfl,q1⟩:=y
  have:=(q1 xs sq).symm.trans ev
  cases this
  refine ⟨upd_tupLe hp,sh.new hp,?_⟩
  rw [show (0 : Int) + (i : Int) = (i : Int) from by omega]
  exact SimH.newTup (H3:=H3') hp (.cons .ofInt (.cons rv .nil))
theorem i3_enum0 {te : TE3} (hg : Gl X "enumerate") (hm : X.mg "enumerate" = none) (he : PE3 X e te) (hs : starEach [e] X.env = (false,eval e X.env) :: starEach [] X.env:=by rfl) (hpl : (backTo pos (starEach [] X.env)).any (·.1) = false:=by rfl) :
  PI3 X (.Tuple elts x1 tpos) (.Call (.Name "enumerate" p) [e] [] pos) (iEnum03 te):=by
 refine PI.imp (pi_enum0 hg hm he hs hpl) ?_
 rintro σ H R ⟨σ3,H3,R3,ss,sh,h,k⟩
 refine ⟨σ3,H3,_,ss,sh,h,fun v H' t H3' le sh' r q => ?_⟩
 cases t with
 | ref a =>
  have q' : en0H (H3' a) a H3' R3:=q
  cases eo : H3' a with
  | none => rw [eo] at q'; exact q'.elim
  | some o =>
   rw [eo] at q'
   cases o with
   | lst ts =>
    obtain ⟨xs,hH,rs⟩:=sh' a _ eo
    exact ⟨a,r.ref,⟨xs,hH⟩,k _ _ (stillL a ts) H' H3' le sh' walk_enum0 q'⟩
   | rol ts => exact q'.elim
   | dct ts => exact q'.elim
   | dcp ts => exact q'.elim
 | _ => exact q.elim
end
theorem o3_shl {X : Cx} : OpR3 X (binaryOp .LShift) (rI3 CPow fun i j => .int (i * 2 ^ j.toNat)):=o3_I op_shl fun _ _ _ => .ofInt
end L3
namespace M
open PySem PySem.Spec PyProof.Rows L2 L3
end M
namespace M
open PySem PySem.Spec PyProof.Rows L2 L3
structure isNm (x : Str) : Prop where
 lo : 1 <= x.length
 hi : x.length <= 8
 az : ∀ c ∈ x.cps.toList,97 <= c /\ c <= 122
structure Nms (ws : List Str) : Prop where
 nm : ∀ x ∈ ws,isNm x
 nd : ws.Nodup
theorem Nms.nil : Nms []:=⟨fun _ h => (nomatch h),List.nodup_nil⟩
theorem Nms.snoc {ws : List Str} {x : Str} (n : Nms ws) (h : isNm x) (hx : x ∉ ws) : Nms (ws ++ [x]) :=
 ⟨fun y hy => (List.mem_append.mp hy).elim (n.nm y) fun z => by rw [List.mem_singleton.mp z]; exact h,nd_snoc n.nd hx⟩
structure Wk where
 tasks : List (Str × Int × List Str)
 orders : List (Str × Str)
 pairs : List (Str × Str × Str)
 row : List Str
noncomputable def sT (xs : List Str) : T:=.tup (xs.map T.str)
noncomputable def tkT (t : Str × Int × List Str) : T:=.tup [.str t.1,.int t.2.1,sT t.2.2]
noncomputable def orT (o : Str × Str) : T:=.tup [.str o.1,.str o.2]
noncomputable def prT (p : Str × Str × Str) : T:=.tup [.str p.1,.str p.2.1,.str p.2.2]
noncomputable def Wk.enc (W : Wk) : T:=.tup [.tup (W.tasks.map tkT),.tup (W.orders.map orT),.tup (W.pairs.map prT),sT W.row]
structure tkOk (t : Str × Int × List Str) : Prop where
 nm : isNm t.1
 lo : 1 <= t.2.1
 hi : t.2.1 < 10 ^ 60
 ks : Nms t.2.2
 kl : t.2.2.length <= 4
structure WkOk (W : Wk) : Prop where
 t1 : 1 <= W.tasks.length
 t8 : W.tasks.length <= 8
 tk : ∀ t ∈ W.tasks,tkOk t
 nd : (W.tasks.map (·.1)).Nodup
 os : W.orders.length <= 28
 od : W.orders.Nodup
 oo : ∀ o ∈ W.orders,o.1 ≠ o.2 /\ o.1 ∈ W.tasks.map (·.1) /\ o.2 ∈ W.tasks.map (·.1)
 ps : W.pairs.length <= 12
 pd : W.pairs.Nodup
 pp : ∀ p ∈ W.pairs,(p.1 = "with" \/ p.1 = "apart") /\ p.2.1 ≠ p.2.2 /\ p.2.1 ∈ W.tasks.map (·.1) /\ p.2.2 ∈ W.tasks.map (·.1)
 r1 : 1 <= W.row.length
 r8 : W.row.length <= 8
 rn : ∀ x ∈ W.row,isNm x
theorem orT_inj {a b : Str × Str} (h : orT a = orT b) : a = b:=by
 obtain ⟨a1,a2⟩:=a
 obtain ⟨b1,b2⟩:=b
 simp only [orT,T.tup.injEq,List.cons.injEq,T.str.injEq,and_true] at h
 rw [h.1,h.2]
theorem prT_inj {a b : Str × Str × Str} (h : prT a = prT b) : a = b:=by
 obtain ⟨a1,a2,a3⟩:=a
 obtain ⟨b1,b2,b3⟩:=b
 simp only [prT,T.tup.injEq,List.cons.injEq,T.str.injEq,and_true] at h
 rw [h.1,h.2.1,h.2.2]
theorem mem_map_inj {α : Type} {f : α -> T} (hf : ∀ {a b},f a = f b -> a = b) {x : α} {xs : List α} : f x ∈ xs.map f ↔ x ∈ xs:=by
 rw [List.mem_map]
 exact ⟨fun ⟨y,hy,e⟩ => hf e ▸ hy,fun h => ⟨x,h,rfl⟩⟩
theorem str_inj {a b : Str} (h : T.str a = T.str b) : a = b:=by injection h
theorem memN {α : Type} {f : α -> T} (hf : ∀ {a b},f a = f b -> a = b) {x : α} {xs : List α} : memB true (f x) (xs.map f) = true ↔ x ∉ xs:=by
 unfold memB
 simp [mem_map_inj hf]
theorem memI {α : Type} {f : α -> T} (hf : ∀ {a b},f a = f b -> a = b) {x : α} {xs : List α} : memB false (f x) (xs.map f) = true ↔ x ∈ xs:=by
 unfold memB
 simp [mem_map_inj hf]
theorem pl_str (x : Str) : pl 20 (.str x) = true:=rfl
theorem pl_strs (xs : List Str) : (xs.map T.str).all (pl 20) = true:=by rw [List.all_eq_true]; intro t ht; obtain ⟨x,_,rfl⟩:=List.mem_map.mp ht; rfl
theorem pl_prT (o : Str × Str × Str) : pl 20 (prT o) = true:=rfl
theorem pl_ors (xs : List (Str × Str)) : (xs.map orT).all (pl 20) = true:=by rw [List.all_eq_true]; intro t ht; obtain ⟨x,_,rfl⟩:=List.mem_map.mp ht; rfl
theorem pl_prs (xs : List (Str × Str × Str)) : (xs.map prT).all (pl 20) = true:=by rw [List.all_eq_true]; intro t ht; obtain ⟨x,_,rfl⟩:=List.mem_map.mp ht; rfl
end M
namespace M
open PySem PySem.Spec PyProof.Rows L2 L3
noncomputable def mkS (l : List Nat) : Str:=⟨l.toArray⟩
theorem mkS_cps (l : List Nat) : (mkS l).cps.toList = l:=rfl
theorem mkS_len (l : List Nat) : (mkS l).length = l.length:=by show (l.toArray).size = _; simp
theorem mkS_of (x : Str) : ∃ l,x = mkS l:=⟨x.cps.toList,by cases x; rfl⟩
noncomputable def abcL : List Nat:=[97,98,99,100,101,102,103,104,105,106,107,108,109,110,111,112,113,114,115,116,117,118,119,120,121,122]
theorem abc_eq : ("abcdefghijklmnopqrstuvwxyz" : Str) = mkS abcL:=by decide +kernel
theorem abc_nat : ∀ i : _root_.Fin 26,abcL[i.val]? = some (97 + i.val):=by decide
theorem abc_at (i : Int) (h0 : 0 <= i) (h1 : i < 26) : atI abcL i = some (97 + i.toNat):=by
 obtain ⟨j,rfl⟩:=Int.eq_ofNat_of_zero_le h0
 have hj : j < 26:=by omega
 have:=abc_nat ⟨j,hj⟩
 exact atI_nat (by simpa using this)
theorem abc_ix0 : ∀ i : _root_.Fin 26,Builtin.Str.occurrences (mkS abcL) (mkS [97 + i.val]) 0 26 1 = [i.val]:=by decide +kernel
theorem abc_ix (c : Nat) (h0 : 97 <= c) (h1 : c <= 122) : Builtin.Str.occurrences (mkS abcL) (mkS [c]) 0 (mkS abcL).length 1 = [c - 97]:=by
 have:=abc_ix0 ⟨c - 97,by omega⟩
 rw [show 97 + (c - 97) = c by omega] at this
 exact this
theorem nm_mk {l : List Nat} (h1 : 1 <= l.length) (h8 : l.length <= 8) (h : ∀ c ∈ l,97 <= c /\ c <= 122) : isNm (mkS l):=⟨by rw [mkS_len]; exact h1,by rw [mkS_len]; exact h8,by rw [mkS_cps]; exact h⟩
theorem pigeon : ∀ (n : Nat) (l : List Nat),l.length < n -> ∃ m,m < n /\ m ∉ l
 | 0,l,h => by omega
 | n + 1,l,h => by
  by_cases hn : n ∈ l
  ·
   have hl:=List.length_erase_of_mem hn
   have : 0 < l.length:=List.length_pos_of_mem hn
   obtain ⟨m,hm,hx⟩:=pigeon n (l.erase n) (by omega)
   exact ⟨m,by omega,fun z => hx ((List.mem_erase_of_ne (by omega)).mpr z)⟩
  ·
   exact ⟨n,by omega,hn⟩
theorem free_letter (c : Nat) (h0 : 97 <= c) (h1 : c <= 122) (ws : List Str) (hl : ws.length <= 7) : ∃ m : Nat,∀ w ∈ ws,w.cps.toList.head? ≠ some (97 + (c - 97 + m) % 26):=by
 obtain ⟨t,ht,hx⟩:=pigeon 26 (ws.map fun w => w.cps.toList.headD 0 - 97) (by rw [List.length_map]; omega)
 refine ⟨t + 26 - (c - 97),fun w hw e => hx ?_⟩
 rw [List.mem_map]
 refine ⟨w,hw,?_⟩
 have e2 : (c - 97 + (t + 26 - (c - 97))) % 26 = t:=by omega
 rw [e2] at e
 cases hq : w.cps.toList with
 | nil => rw [hq] at e; cases e
 | cons a r => rw [hq] at e; injection e with e; simp only [List.headD_cons]; omega
end M
namespace M
open PySem PySem.Spec PyProof.Rows L2 L3
noncomputable def tkW (t : Str × Int × List Str) : List Str:=([("task" : Str),t.1,(toString t.2.1 : String)] : List Str) ++ t.2.2
noncomputable def tkR (t : Str × Int × List Str) : Str:=PySem.Txt.join " " (tkW t)
theorem sum_le {B : Nat} : ∀ {ys : List Str},(∀ y ∈ ys,y.length <= B) -> (ys.map (·.length)).sum <= ys.length * B
 | [],_ => by simp
 | y :: r,h => by
  have h1:=h y List.mem_cons_self
  have h2:=sum_le (ys:=r) fun z hz => h z (List.mem_cons_of_mem _ hz)
  simp only [List.map_cons,List.sum_cons,List.length_cons,Nat.succ_mul]
  omega
theorem jn_len (z : Str) (ys : List Str) : (PySem.Txt.join z ys).length = (ys.map (·.length)).sum + (ys.length - 1) * z.length:=size_glued z ys
theorem sp_len : (" " : Str).length = 1:=by decide +kernel
theorem jn_le {z : Str} {ys : List Str} {B n : Nat} (hz : z.length = 1) (hn : ys.length <= n) (h : ∀ y ∈ ys,y.length <= B) : (PySem.Txt.join z ys).length <= n * B + n:=by
 rw [jn_len,hz]
 have h1:=sum_le h
 have h2 : ys.length * B <= n * B:=Nat.mul_le_mul_right B hn
 omega
theorem wd_task : ("task" : Str).length = 4:=by decide +kernel
theorem wd_order : ("order" : Str).length = 5:=by decide +kernel
theorem wd_with : ("with" : Str).length = 4:=by decide +kernel
theorem wd_apart : ("apart" : Str).length = 5:=by decide +kernel
theorem wd_row : ("row" : Str).length = 3:=by decide +kernel
theorem num_len {n : Int} (h1 : 1 <= n) (h : n < 10 ^ 60) : ((toString n : String) : Str).length <= 60:=toString_length_le (by omega) (by decide) h
theorem tkW_le {t : Str × Int × List Str} (h : tkOk t) : (tkW t).length <= 7 /\ ∀ y ∈ tkW t,y.length <= 60:=by
 unfold tkW
 refine ⟨by have:=h.kl; simp only [List.length_append,List.length_cons,List.length_nil]; omega,fun y hy => ?_⟩
 rcases List.mem_append.mp hy with hy | hy
 ·
  simp only [List.mem_cons,List.not_mem_nil,or_false] at hy
  rcases hy with rfl | rfl | rfl
  ·
   rw [wd_task]; decide
  ·
   exact Nat.le_trans h.nm.hi (by decide)
  ·
   exact num_len h.lo h.hi
 ·
  exact Nat.le_trans (h.ks.nm y hy).hi (by decide)
theorem tkR_le {t : Str × Int × List Str} (h : tkOk t) : (tkR t).length <= 500:=Nat.le_trans (jn_le sp_len (tkW_le h).1 (tkW_le h).2) (by decide)
theorem or_le {o : Str × Str} (h1 : isNm o.1) (h2 : isNm o.2) : ∀ y ∈ (["order",o.1,o.2] : List Str),y.length <= 8:=fun y hy => by
 simp only [List.mem_cons,List.not_mem_nil,or_false] at hy
 rcases hy with rfl | rfl | rfl
 ·
  rw [wd_order]; decide
 ·
  exact h1.hi
 ·
  exact h2.hi
theorem pr_le {o : Str × Str × Str} (h0 : o.1 = "with" \/ o.1 = "apart") (h1 : isNm o.2.1) (h2 : isNm o.2.2) : ∀ y ∈ ([o.1,o.2.1,o.2.2] : List Str),y.length <= 8:=fun y hy => by
 simp only [List.mem_cons,List.not_mem_nil,or_false] at hy
 rcases hy with rfl | rfl | rfl
 ·
  rcases h0 with h0 | h0
  ·
   rw [h0,wd_with]; decide
  ·
   rw [h0,wd_apart]; decide
 ·
  exact h1.hi
 ·
  exact h2.hi
theorem rw_le {xs : List Str} (h : ∀ x ∈ xs,isNm x) : ∀ y ∈ (([("row" : Str)] : List Str) ++ xs),y.length <= 8:=fun y hy => by
 rcases List.mem_append.mp hy with hy | hy
 ·
  rw [List.mem_singleton.mp hy,wd_row]; decide
 ·
  exact (h y hy).hi
end M
namespace M
open PySem PySem.Spec PyProof.Rows L2 L3
noncomputable def glue (c : Nat) : List (List Nat) -> List Nat
 | [] => []
 | [x] => x
 | x :: y :: r => x ++ c :: glue c (y :: r)
theorem cut_eq {c : Nat} : ∀ {x y A B : List Nat},c ∉ x -> c ∉ y -> x ++ c :: A = y ++ c :: B -> x = y /\ A = B
 | [],[],A,B,_,_,h => by simp at h; exact ⟨rfl,h⟩
 | [],b :: y,A,B,_,hy,h => by
  simp at h
  exact absurd h.1 (fun e => hy (e ▸ List.mem_cons_self))
 | a :: x,[],A,B,hx,_,h => by
  simp at h
  exact absurd h.1.symm (fun e => hx (e ▸ List.mem_cons_self))
 | a :: x,b :: y,A,B,hx,hy,h => by
  simp only [List.cons_append,List.cons.injEq] at h
  obtain ⟨e,h⟩:=h
  have:=cut_eq (fun z => hx (List.mem_cons_of_mem _ z)) (fun z => hy (List.mem_cons_of_mem _ z)) h
  exact ⟨by rw [e,this.1],this.2⟩
theorem glue_inj {c : Nat} : ∀ {xs ys : List (List Nat)},xs ≠ [] -> ys ≠ [] -> (∀ x ∈ xs,c ∉ x) -> (∀ y ∈ ys,c ∉ y) -> glue c xs = glue c ys -> xs = ys
 | [],_,h,_,_,_,_ => absurd rfl h
 | _,[],_,h,_,_,_ => absurd rfl h
 | [x],[y],_,_,_,_,h => by rw [show x = y from h]
 | [x],y :: y2 :: r,_,_,hx,_,h => by
  have h' : x = y ++ c :: glue c (y2 :: r):=h
  exact absurd (show c ∈ x by rw [h']; simp) (hx x List.mem_cons_self)
 | x :: x2 :: r,[y],_,_,_,hy,h => by
  have h' : x ++ c :: glue c (x2 :: r) = y:=h
  exact absurd (show c ∈ y by rw [<- h']; simp) (hy y List.mem_cons_self)
 | x :: x2 :: r,y :: y2 :: r',_,_,hx,hy,h => by
  obtain ⟨e,h⟩:=cut_eq (hx x List.mem_cons_self) (hy y List.mem_cons_self) h
  rw [e,glue_inj (by simp) (by simp) (fun z hz => hx z (List.mem_cons_of_mem _ hz)) (fun z hz => hy z (List.mem_cons_of_mem _ hz)) h]
theorem cps_app (a b : Str) : (a ++ b).cps.toList = a.cps.toList ++ b.cps.toList:=by
 show (a.cps ++ b.cps).toList = _
 simp
theorem join_glue (c : Nat) : ∀ xs : List Str,(Str.join ⟨#[c]⟩ xs).cps.toList = glue c (xs.map fun x => x.cps.toList)
 | [] => rfl
 | [x] => rfl
 | x :: y :: r => by
  show (x ++ ⟨#[c]⟩ ++ Str.join ⟨#[c]⟩ (y :: r)).cps.toList = _
  rw [cps_app,cps_app,join_glue c (y :: r)]
  simp [glue]
theorem str_ext {a b : Str} (h : a.cps.toList = b.cps.toList) : a = b:=by
 obtain ⟨l,rfl⟩:=mkS_of a
 obtain ⟨m,rfl⟩:=mkS_of b
 rw [mkS_cps,mkS_cps] at h
 rw [h]
theorem map_cps_inj : ∀ {xs ys : List Str},xs.map (fun x => x.cps.toList) = ys.map (fun x => x.cps.toList) -> xs = ys
 | [],[],_ => rfl
 | [],_ :: _,h => by cases h
 | _ :: _,[],h => by cases h
 | x :: xs,y :: ys,h => by
  simp only [List.map_cons,List.cons.injEq] at h
  rw [str_ext h.1,map_cps_inj h.2]
theorem split_ne (x y : Str) : Txt.split x y ≠ []:=by
 unfold Txt.split
 split
 ·
  simp
 ·
  split
  ·
   simp
  ·
   intro h
   have:=congrArg List.length h
   rw [length_partsBetween] at this
   simp at this
theorem split_join {c : Nat} {ws : List Str} (hn : ws ≠ []) (hc : ∀ w ∈ ws,c ∉ w.cps.toList) : Txt.split (Str.join ⟨#[c]⟩ ws) ⟨#[c]⟩ = ws:=by
 have h1:=StrLaws.join_split (Str.join ⟨#[c]⟩ ws) ⟨#[c]⟩
 have h2:=StrLaws.split_free (Str.join ⟨#[c]⟩ ws) c
 have h3:=congrArg (fun z : Str => z.cps.toList) h1
 simp only [join_glue] at h3
 refine map_cps_inj (glue_inj (c:=c) (by simp [split_ne]) (by simp [hn]) ?_ ?_ h3)
 ·
  intro x hx
  obtain ⟨p,hp,rfl⟩:=List.mem_map.mp hx
  exact h2 p hp
 ·
  intro x hx
  obtain ⟨p,hp,rfl⟩:=List.mem_map.mp hx
  exact hc p hp
theorem sp_eq : (" " : Str) = ⟨#[32]⟩:=by decide +kernel
theorem jn_eq (z : Str) (ys : List Str) : PySem.Txt.join z ys = Str.join z ys:=by
 exact PySem.StrLaws.glued_eq_join z ys
theorem sp_split {ws : List Str} (hn : ws ≠ []) (hc : ∀ w ∈ ws,32 ∉ w.cps.toList) : Txt.split (PySem.Txt.join " " ws) " " = ws:=by
 rw [jn_eq,sp_eq]; exact split_join hn hc
theorem glue_mem {c d : Nat} : ∀ {xs : List (List Nat)},d ∈ glue c xs -> d = c \/ ∃ x ∈ xs,d ∈ x
 | [],h => by cases h
 | [x],h => .inr ⟨x,by simp,h⟩
 | x :: y :: r,h => by
  have h' : d ∈ x ++ c :: glue c (y :: r):=h
  rw [List.mem_append,List.mem_cons] at h'
  rcases h' with h' | h' | h'
  ·
   exact .inr ⟨x,by simp,h'⟩
  ·
   exact .inl h'
  ·
   rcases glue_mem h' with e | ⟨z,hz,e⟩
   ·
    exact .inl e
   ·
    exact .inr ⟨z,List.mem_cons_of_mem _ hz,e⟩
theorem jn_free {ws : List Str} (hc : ∀ w ∈ ws,10 ∉ w.cps.toList) : 10 ∉ (PySem.Txt.join " " ws).cps.toList:=by
 rw [jn_eq,sp_eq,join_glue]
 intro h
 rcases glue_mem h with e | ⟨x,hx,e⟩
 ·
  exact absurd e (by decide)
 ·
  obtain ⟨p,hp,rfl⟩:=List.mem_map.mp hx
  exact hc p hp e
def cleanS (w : Str) : Prop:=∀ c ∈ w.cps.toList,48 <= c
theorem isNm.clean {x : Str} (h : isNm x) : cleanS x:=fun c hc => by have:=h.az c hc; omega
theorem cleanS.no {w : Str} (h : cleanS w) {c : Nat} (hc : c < 48) : c ∉ w.cps.toList:=fun z => by have:=h c z; omega
theorem cl_task : cleanS "task":=by unfold cleanS; decide +kernel
theorem cl_order : cleanS "order":=by unfold cleanS; decide +kernel
theorem cl_with : cleanS "with":=by unfold cleanS; decide +kernel
theorem cl_apart : cleanS "apart":=by unfold cleanS; decide +kernel
theorem cl_row : cleanS "row":=by unfold cleanS; decide +kernel
theorem num_nat {n : Int} (h1 : 1 <= n) : ∃ m : Nat,n = m /\ 1 <= m:=⟨n.toNat,by omega,by omega⟩
theorem num_signs (m : Nat) : (((toString ((m : Nat) : Int) : String) : Str)).cps.toList = (Nat.toDigits 10 m).map Char.toNat:=PySem.W.KIN.signs_num m
theorem num_dig {m c : Nat} (h : c ∈ (Nat.toDigits 10 m).map Char.toNat) : 48 <= c /\ c <= 57:=by
 obtain ⟨ch,hch,e⟩:=List.mem_map.mp h
 have r:=PyProof.Rows.digit_range (Nat.isDigit_of_mem_toDigits (by decide) (by decide) hch)
 rw [<- e]
 exact r
theorem cl_num {n : Int} (h1 : 1 <= n) : cleanS ((toString n : String) : Str):=by
 obtain ⟨m,rfl,_⟩:=num_nat h1
 intro c hc
 rw [num_signs] at hc
 exact (num_dig hc).1
end M
namespace L3
open PySem PySem.Spec PyProof.Rows L2
theorem cut_f1 (a : T) (r : List T) : cut3 (a :: r) (some 1) none = r:=cut_from (k:=1)
theorem cut_f2 (a b : T) (r : List T) : cut3 (a :: b :: r) (some 2) none = r:=cut_from (k:=2)
theorem cut_f3 (a b c : T) (r : List T) : cut3 (a :: b :: c :: r) (some 3) none = r:=cut_from (k:=3)
structure Shut (p : Prop) : Prop where
 out : p
theorem seq_cut {t u : TS3} {D : Ends3} {σ : St3} {H : Hp3} (h : ∀ R,Shut (R = u) -> (tSeq3 t R) D σ H) : (tSeq3 t u) D σ H:=h u ⟨rfl⟩
theorem cIter_filt {α : Type} (enc f : α -> T) (p : α -> Bool) (as : List α) (rest : St3) {tt : TT3} {te : TE3} {still : Hp3 -> Prop} {fin : List T -> Hp3 -> Prop} {v : Option T} {H : Hp3} (hst : still H) (hl : as.length <= sizeLine)
  (hc : ∀ a ∈ as,∀ Q : Bool -> Hp3 -> Prop,Q (p a) H -> tt (some (enc a) :: rest) H Q)
  (ht : ∀ a ∈ as,p a = true -> ∀ Q : VK3,Q (f a) H -> te (some (enc a) :: rest) H Q) (hfin : fin ((as.filter p).map f) H) : cIter3 (gName3 0) tt te still fin (as.map enc) [] (v :: rest) H:=by
 refine cIter_go (fun r ys σ H' => ∃ (rs ds : List α) (v : Option T),σ = v :: rest /\ r = rs.map enc /\ ys = (ds.filter p).map f /\ ds ++ rs = as /\ H' = H) ⟨as,[],v,rfl,rfl,rfl,rfl,rfl⟩ ?_ ?_
 ·
  rintro ys σ H' ⟨rs,ds,v,rfl,hrs,rfl,hsp,rfl⟩
  have hrs' : rs = []:=List.map_eq_nil_iff.mp hrs.symm
  subst hrs'
  rw [List.append_nil] at hsp
  subst hsp
  exact ⟨hst,by rw [List.length_map]; exact Nat.le_trans (List.length_filter_le _ _) hl,hfin⟩
 ·
  rintro x r ys σ H' N ⟨rs,ds,v,rfl,hrs,rfl,hsp,rfl⟩ hN
  cases rs with
  | nil => cases hrs
  | cons t rs =>
   injection hrs with e1 e2
   subst e1 e2
   refine ⟨hst,?_⟩
   show tt (some (enc t) :: rest) H' _
   refine hc t (by rw [<- hsp]; simp) _ ?_
   cases hp : p t with
   | true =>
    rw [if_pos rfl]
    refine ht t (by rw [<- hsp]; simp) hp _ ⟨?_,hN _ _ _ ⟨rs,ds ++ [t],_,rfl,rfl,by simp [hp],by rw [<- hsp]; simp,rfl⟩⟩
    have:=congrArg List.length hsp
    simp only [List.length_append,List.length_cons] at this
    rw [List.length_map]
    have:=List.length_filter_le p ds
    omega
   | false =>
    rw [if_neg Bool.false_ne_true]
    exact hN _ _ _ ⟨rs,ds ++ [t],_,rfl,rfl,by simp [hp],by rw [<- hsp]; simp,rfl⟩
end L3
namespace M
open PySem PySem.Spec PyProof.Rows L2 L3
inductive Rw where
 | tk (t : Str × Int × List Str) | od (o : Str × Str) | pr (p : Str × Str × Str)
noncomputable def Rw.words : Rw -> List Str
 | .tk t => tkW t
 | .od o => ["order",o.1,o.2]
 | .pr p => [p.1,p.2.1,p.2.2]
noncomputable def tks : List Rw -> List (Str × Int × List Str)
 | [] => []
 | .tk t :: r => t :: tks r
 | _ :: r => tks r
noncomputable def prs : List Rw -> List (Str × Str × Str)
 | [] => []
 | .pr p :: r => p :: prs r
 | _ :: r => prs r
inductive RowW : List Str -> Prop
 | tk {t : Str × Int × List Str} (h : tkOk t) : RowW (tkW t)
 | od {a b : Str} (h1 : isNm a) (h2 : isNm b) : RowW ["order",a,b]
 | pr {z a b : Str} (h0 : z = "with" \/ z = "apart") (h1 : isNm a) (h2 : isNm b) : RowW [z,a,b]
 | row {xs : List Str} (h1 : 1 <= xs.length) (h8 : xs.length <= 8) (h : ∀ x ∈ xs,isNm x) : RowW (([("row" : Str)] : List Str) ++ xs)
theorem RowW.ne {ws : List Str} (h : RowW ws) : ws ≠ []:=by cases h <;> simp [tkW]
theorem RowW.clean {ws : List Str} (h : RowW ws) : ∀ w ∈ ws,cleanS w:=by
 intro w hw
 cases h with
 | tk h =>
  rcases List.mem_append.mp hw with hw | hw
  ·
   simp only [List.mem_cons,List.not_mem_nil,or_false] at hw
   rcases hw with rfl | rfl | rfl
   ·
    exact cl_task
   ·
    exact h.nm.clean
   ·
    exact cl_num h.lo
  ·
   exact (h.ks.nm w hw).clean
 | od h1 h2 =>
  simp only [List.mem_cons,List.not_mem_nil,or_false] at hw
  rcases hw with rfl | rfl | rfl
  ·
   exact cl_order
  ·
   exact h1.clean
  ·
   exact h2.clean
 | pr h0 h1 h2 =>
  simp only [List.mem_cons,List.not_mem_nil,or_false] at hw
  rcases hw with rfl | rfl | rfl
  ·
   rcases h0 with rfl | rfl
   ·
    exact cl_with
   ·
    exact cl_apart
  ·
   exact h1.clean
  ·
   exact h2.clean
 | row h1 h8 h =>
  rcases List.mem_append.mp hw with hw | hw
  ·
   rw [List.mem_singleton.mp hw]; exact cl_row
  ·
   exact (h w hw).clean
theorem RowW.split {ws : List Str} (h : RowW ws) : PySem.Txt.split (PySem.Txt.join " " ws) " " = ws:=sp_split h.ne fun w hw => (h.clean w hw).no (by decide)
theorem RowW.len {ws : List Str} (h : RowW ws) : (PySem.Txt.join " " ws).length <= 500:=by
 cases h with
 | tk h => exact tkR_le h
 | od h1 h2 => exact Nat.le_trans (jn_le sp_len (n:=3) (by simp) (or_le (o:=(_,_)) h1 h2)) (by decide)
 | pr h0 h1 h2 => exact Nat.le_trans (jn_le sp_len (n:=3) (by simp) (pr_le (o:=(_,_,_)) h0 h1 h2)) (by decide)
 | row h1 h8 h => exact Nat.le_trans (jn_le sp_len (n:=9) (by simp only [List.length_append,List.length_singleton]; omega) (rw_le h)) (by decide)
theorem RowW.free {ws : List Str} (h : RowW ws) : 10 ∉ (PySem.Txt.join " " ws).cps.toList:=jn_free fun w hw => (h.clean w hw).no (by decide)
end M
namespace M
open PySem PySem.Spec PyProof.Rows L2 L3
structure Cl (H : Hp3) (a : Addr) : Prop where
 ex : ∃ ns : List Int,H a = some (.lst (ns.map T.int)) /\ ns ≠ [] /\ ns.length <= 64
structure Drw (a : Addr) (H H' : Hp3) : Prop where
 cl : Cl H' a
 off : ∀ b,b ≠ a -> H' b = H b
theorem Drw.trans {a : Addr} {H H1 H2 : Hp3} (x : Drw a H H1) (y : Drw a H1 H2) : Drw a H H2:=⟨y.cl,fun b h => (y.off b h).trans (x.off b h)⟩
theorem Cl.refl {a : Addr} {H : Hp3} (D : Cl H a) : Drw a H H:=⟨D,fun _ _ => rfl⟩
theorem Cl.ne {a p : Addr} {H : Hp3} (D : Cl H a) (hp : H p = none) : p ≠ a:=fun e => by obtain ⟨ns,h,_⟩:=D.ex; rw [<- e,hp] at h; cases h
theorem Cl.new {a p : Addr} {H : Hp3} {u : O3} (D : Cl H a) (h : p ≠ a) : Cl (up3 H p u) a:=by
 obtain ⟨ns,e,r⟩:=D.ex
 exact ⟨ns,by rw [up3_ne (Ne.symm h)]; exact e,r⟩
def Kep (a : Addr) (H H' : Hp3) : Prop:=∀ b o,H b = some o -> b ≠ a -> H' b = some o
theorem Kep.refl {a : Addr} {H : Hp3} : Kep a H H:=fun _ _ h _ => h
theorem Kep.drw {a : Addr} {H H1 H2 : Hp3} (x : Kep a H H1) (y : Drw a H1 H2) : Kep a H H2:=fun b o h h1 => by rw [y.off b h1]; exact x b o h h1
theorem Kep.new {a p : Addr} {H H1 : Hp3} {u : O3} (x : Kep a H H1) (hp : H1 p = none) : Kep a H (up3 H1 p u):=fun b o h h1 => by
 have:=x b o h h1
 rw [up3_ne (ne3n this hp)]; exact this
theorem Kep.at {a p : Addr} {H H1 : Hp3} {u : O3} (x : Kep a H H1) (hp : H p = none) : Kep a H (up3 H1 p u):=fun b o h h1 => by
 rw [up3_ne (ne3n h hp)]; exact x b o h h1
theorem Kep.sub {a : Addr} {H H1 H2 : Hp3} (x : Kep a H H1) (s : Sub3 H1 H2) : Kep a H H2:=fun b o h h1 => s b o (x b o h h1)
theorem fin_drw {a : Addr} {H H' : Hp3} {Q : VK3} {v : T} (D : Cl H' a) (k : Kep a H H') (q : ∀ H'',Drw a H H'' -> Q v H'') : Fin3 Q v H':=by
 refine ⟨fun b => if b = a then H' b else H b,fun b o hb => ?_,q _ ⟨?_,fun b h1 => ?_⟩⟩
 ·
  by_cases h : b = a
  ·
   simp only [h,if_true] at hb ⊢; exact hb
  ·
   simp only [h,if_false] at hb
   exact k b o hb h
 ·
  obtain ⟨ns,e,r⟩:=D.ex
  exact ⟨ns,by simp only [if_true]; exact e,r⟩
 ·
  simp only [h1,if_false]
noncomputable def sg (c : Nat) : Str:=⟨#[c]⟩
noncomputable def sgT (c : Nat) : T:=.str ⟨#[c]⟩
theorem e_eq : ("" : Str) = ⟨#[]⟩:=by decide +kernel
theorem e_len : ("" : Str).length = 0:=by decide +kernel
theorem join_sg : ∀ l : List Nat,(Str.join ("" : Str) (l.map sg)).cps.toList = l
 | [] => rfl
 | [c] => rfl
 | c :: d :: r => by
  show (sg c ++ "" ++ Str.join "" ((d :: r).map sg)).cps.toList = _
  rw [cps_app,cps_app,join_sg (d :: r),e_eq]
  rfl
theorem jn_sg (l : List Nat) : PySem.Txt.join "" (l.map sg) = mkS l:=by
 rw [jn_eq]
 exact str_ext (by rw [join_sg,mkS_cps])
theorem strs_sg (l : List Nat) : strs3 (l.map sgT) = some (l.map sg):=by
 have:=strs3_map (l.map sg)
 rw [List.map_map] at this
 exact this
theorem ok_sg {l : List Nat} (h : l.length <= 100) : jOk "" (l.map sg):=by
 unfold jOk
 have h1 : ∀ l : List Nat,((l.map sg).map (·.length)).sum = l.length:=fun l => by
  induction l with
  | nil => rfl
  | cons c r ih => simp only [List.map_cons,List.sum_cons,ih,List.length_cons]; show 1 + r.length = _; omega
 rw [h1,e_len]
 simp only [Nat.mul_zero]
 omega
noncomputable def pairsOf : List Str -> List (Str × Str)
 | [] => []
 | x :: r => r.map (fun y => (x,y)) ++ pairsOf r
theorem pairsOf_mem : ∀ {ws : List Str} {o : Str × Str},o ∈ pairsOf ws -> o.1 ∈ ws /\ o.2 ∈ ws
 | [],o,h => by cases h
 | x :: r,o,h => by
  rcases List.mem_append.mp h with h | h
  ·
   obtain ⟨y,hy,rfl⟩:=List.mem_map.mp h
   exact ⟨List.mem_cons_self,List.mem_cons_of_mem _ hy⟩
  ·
   have:=pairsOf_mem h
   exact ⟨List.mem_cons_of_mem _ this.1,List.mem_cons_of_mem _ this.2⟩
theorem pairsOf_ne : ∀ {ws : List Str} {o : Str × Str},ws.Nodup -> o ∈ pairsOf ws -> o.1 ≠ o.2
 | [],o,_,h => by cases h
 | x :: r,o,nd,h => by
  rw [List.nodup_cons] at nd
  rcases List.mem_append.mp h with h | h
  ·
   obtain ⟨y,hy,rfl⟩:=List.mem_map.mp h
   exact fun e => nd.1 (by have e' : x = y:=e; rw [e']; exact hy)
  ·
   exact pairsOf_ne nd.2 h
theorem pairsOf_nd : ∀ {ws : List Str},ws.Nodup -> (pairsOf ws).Nodup
 | [],_ => List.nodup_nil
 | x :: r,nd => by
  rw [List.nodup_cons] at nd
  show (r.map (fun y => (x,y)) ++ pairsOf r).Nodup
  rw [List.nodup_append]
  refine ⟨?_,pairsOf_nd nd.2,?_⟩
  ·
   have : ∀ r : List Str,r.Nodup -> (r.map (fun y => (x,y))).Nodup:=fun r => by
    induction r with
    | nil => intro _; exact List.nodup_nil
    | cons y r ih =>
     intro h
     rw [List.nodup_cons] at h
     rw [List.map_cons,List.nodup_cons]
     refine ⟨fun hm => ?_,ih h.2⟩
     obtain ⟨z,hz,e⟩:=List.mem_map.mp hm
     have e' : z = y:=congrArg Prod.snd e
     exact h.1 (e' ▸ hz)
   exact this r nd.2
  ·
   intro a ha b hb e
   subst e
   obtain ⟨y,hy,rfl⟩:=List.mem_map.mp ha
   exact nd.1 (pairsOf_mem hb).1
theorem pairsOf_len : ∀ ws : List Str,2 * (pairsOf ws).length + ws.length = ws.length * ws.length
 | [] => rfl
 | x :: r => by
  have:=pairsOf_len r
  simp only [pairsOf,List.length_append,List.length_map,List.length_cons,Nat.succ_mul,Nat.mul_succ]
  omega
theorem pairsOf_28 {ws : List Str} (h : ws.length <= 8) : (pairsOf ws).length <= 28:=by
 have e:=pairsOf_len ws
 generalize ws.length = n at *
 match n,h with
 | 0,_ => omega
 | 1,_ => omega
 | 2,_ => omega
 | 3,_ => omega
 | 4,_ => omega
 | 5,_ => omega
 | 6,_ => omega
 | 7,_ => omega
 | 8,_ => omega
end M
namespace M
open PySem PySem.Spec PyProof.Rows L2 L3
theorem sub_up {H0 H : Hp3} {p : Addr} {o : O3} (h0 : H0 p = none) (s : Sub3 H0 H) : Sub3 H0 (up3 H p o):=fun b u e => by rw [up3_ne (ne3n e h0)]; exact s b u e
end M
namespace M
open PySem PySem.Spec PyProof.Rows L2 L3
noncomputable def top (i : Nat) : Stmt:=PySem.Challenge.pw_stationrow_k83_least_lags.main.body.getD i (.Pass ⟨0,0,0,0⟩)
def nm0 : String := "ne_eq not_false_eq_true up3_ne tSeq3 tAsg3 tC3 gName3 tFor3 tCons3 tNil3 tRet3 tRetN3 tOp3 tIfS3 tAnd3 tOr3 tNot3 tCB3 tBM3 tDrop3 tNext3 gSub3 tCall3 tTup3 tLst3 tIf3 tSl3 tNoPart3 tYes3 q_vq q_var q_bq q_test q_chain q_andV q_orV q_notV q_oq q_I q_I0 q_addI q_addS q_addT q_addL q_catH q_eqI q_eqS q_eqB q_eqT q_eqL q_eqH q_inT q_inS q_inL q_inH q_ixL q_ixH q_ixT q_ixS q_setL q_stH q_pq q_part q_slL q_slH q_slHr q_slT q_slS q_D q_dgH q_dput q_dpH q_dpO q_lenL q_lnH q_lenT q_lenS q_listL q_liH q_listT q_tupL q_tpH q_tupT q_intI q_intB q_strI q_sumL q_smH q_tyS q_tyL q_tyH q_app q_apH q_ext q_exH q_pop q_poH q_joinL q_joH q_joinT q_index q_idH q_rng q_rg1 q_rg2 q_iTup q_tuq q_iList q_liq q_liO q_gNil q_gCons q_gTup up3_same tDisp3 tComp3 tSetComp3 q_iZip q_all q_alH zip3_self qi_str it_str_str it_int_str it_tup_str it_bl_str it_non_str qi_int it_str_int it_int_int it_tup_int it_bl_int it_non_int qi_bool it_str_bool it_int_bool it_tup_bool it_bl_bool it_non_bool qi_tuple it_str_tuple it_int_tuple it_tup_tuple it_bl_tuple it_non_tuple qi_list it_str_list it_int_list it_tup_list it_bl_list it_non_list dec_rfl decide_true decide_false Bool.not_true Bool.not_false q_prs0 q_prs1 ix_z at0 at1 at2 at3 List.eraseIdx_cons_zero Int.toNat_natCast up3_up3 List.length_map List.length_cons List.length_nil Nat.zero_add Bool.false_eq_true if_false if_true List.getElem?_cons_zero List.getElem?_cons_succ List.set_cons_zero List.set_cons_succ q_neg q_ngq q_intT List.map_cons List.map_nil cut_f1 cut_f2 cut_f3 q_iEnum0 q_en0q q_en0H"
local macro_rules | `(tactic| walk_at "cp") => `(tactic| try dsimp only [cap3,List.replicate,List.map_cons,List.map_nil,List.cons_append,List.nil_append,List.getElem?_cons_zero,List.getElem?_cons_succ,Option.getD_some])
local macro_rules | `(tactic| walk_at "nx") => `(tactic| (obtain ⟨e⟩:=‹Shut (_ = _)›; subst e; try dsimp only))
local macro_rules | `(tactic| walk_at "rd") => do
 let ls <- (nm0.splitOn " ").toArray.mapM fun n => let i:=Lean.mkIdent n.toName; `(Lean.Parser.Tactic.simpLemma| $i:ident)
 `(tactic| ((try dsimp only [$[$ls:simpLemma],*]); try simp only [*,$[$ls:simpLemma],*]))
section
variable {P : Program} {w : World} {K : PySem.W.Frag} {mg : Str -> Option Value} {base : Heap}
def spWide : Sp3:=fun ts H Q => ∃ n : Int,ts = [.int n] /\ ∀ m : Int,0 <= m -> Q (.int m) H
def spNx : Sp3:=fun ts H Q => ∃ a,ts = [.ref a] /\ Cl H a /\ ∀ (n : Int) (H' : Hp3),Drw a H H' -> Q (.int n) H'
def spDk : Sp3:=fun ts H Q => ∃ (a : Addr) (ns : List Int),ts = [.ref a] /\ H a = some (.rol (ns.map T.int)) /\ ns.length <= 63 /\ ∀ (p : Addr) (H' : Hp3),Sub3 H H' -> H p = none -> Cl H' p -> Q (.ref p) H'
abbrev N_wide : List Str:=["_law_number","_law_found","_law_j"]
theorem sc_wide : FnScope N_wide ["_law_number"] (defScope (top 20)):=sc_mk
theorem ok_wide {f : Addr} {fd : FuncData} (g : G3 K mg "_law_wide" (top 20) ["_law_number"] f fd) (B : Bl mg) : Cal P w K mg base 1 "_law_wide" (top 20) ["_law_number"] spWide:=by
 refine ⟨f,fd,g,?_⟩
 refine fn3 g.fn sc_wide (fun ts H Q h => ?_) (fun cdv A outer s H E ts H3 Q hr h => ?_)
 ·
  obtain ⟨n,rfl,_⟩:=h; rfl
 ·
  have hu30:=Room.u30 hr
  have hu31:=Room.u31 hr
  have hu1:=Room.u1 hr
  obtain ⟨n,rfl,k⟩:=h
  refine ⟨_,(ss3_cons (s3_set (i:=1) sc_wide.nd c3_int)
    (ss3_cons (s3_set (i:=0) sc_wide.nd (e3_op o3_mod (v3 0) c3_int))
    (ss3_cons (s3_for PassesOwn.never rfl (i3_range1 rfl B.range_ (a3_cons c3_int a3_nil)) (g3_name (i:=2) sc_wide.nd) (ss3_cons (s3_set (i:=0) sc_wide.nd (e3_op o3_mod (e3_op o3_add (e3_op o3_add (e3_op o3_mul (v3 0) c3_int) (e3_op o3_mul (e3_op o3_mul c3_int (v3 2)) (v3 2))) c3_int) c3_int))
     (ss3_one (s3_set (i:=1) sc_wide.nd (e3_op o3_add (e3_op o3_mul (v3 1) (e3_op o3_pow c3_int c3_int)) (e3_op o3_mod (e3_op o3_mod (e3_op o3_mul (v3 0) c3_int) c3_int) (e3_op o3_pow c3_int c3_int)))))))
    (ss3_one (s3_ret (v3 1)))))),?_⟩
  rw [show start3 N_wide [T.int n] = [some (T.int n),none,none] from rfl]
  walk_at "rd"
  refine ⟨by decide,True.intro,by decide,by decide,?_⟩
  refine iter_go (fun r σ H => ∃ (x f : Int) (v : Option T),σ = [some (.int x),some (.int f),v] /\ 0 <= x /\ x < 2147483647 /\ 0 <= f /\ H = H3 /\ ∀ t ∈ r,∃ j : Int,t = .int j /\ 0 <= j /\ j < 7) ⟨_,0,none,rfl,Int.emod_nonneg _ (by decide),Int.emod_lt_of_pos _ (by decide),by decide,rfl,?_⟩ ?_ ?_
  ·
   intro t ht
   rw [show rng3 0 (Int.toNat 7) = (List.range 7).map (fun (i : Nat) => T.int (0 + (i : Int))) from rfl] at ht
   obtain ⟨i,hi,rfl⟩:=List.mem_map.mp ht
   rw [List.mem_range] at hi
   exact ⟨_,rfl,by omega,by omega⟩
  ·
   rintro σ H ⟨x,f,v,rfl,_,_,h0,rfl,_⟩
   refine ⟨trivial,?_⟩
   walk_at "rd"
   exact Fin3.of Sub3.refl (k _ h0)
  ·
   rintro t r σ H N ⟨x,f,v,rfl,x0,x1,f0,rfl,hr⟩ hN
   obtain ⟨j,rfl,j0,j1⟩:=hr _ List.mem_cons_self
   refine ⟨trivial,?_⟩
   walk_at "rd"
   have tn : (10 : Int) ^ Int.toNat 9 = 1000000000:=by decide
   rw [tn]
   refine ⟨.inl ⟨by omega,by omega⟩,.inl ⟨by decide,by decide⟩,.inl ⟨by omega,by omega⟩,by decide,⟨by decide,by decide,by decide⟩,.inr ⟨by decide,by decide⟩,.inr ⟨by decide,by decide⟩,by decide,⟨by decide,by decide,by decide⟩,by decide,?_⟩
   refine hN _ _ ⟨_,_,_,rfl,Int.emod_nonneg _ (by decide),Int.emod_lt_of_pos _ (by decide),?_,rfl,fun t ht => hr t (List.mem_cons_of_mem _ ht)⟩
   have:=Int.emod_nonneg (((x * 48271 + 7919 * j * j + 11) % 2147483647) * 69621 % 2147483629) (show (1000000000 : Int) ≠ 0 by decide)
   omega
abbrev N_next : List Str:=["_law_cells","_law_cell"]
theorem sc_next : FnScope N_next ["_law_cells"] (defScope (top 21)):=sc_mk
theorem ok_next {f : Addr} {fd : FuncData} (g : G3 K mg "_law_next" (top 21) ["_law_cells"] f fd) (B : Bl mg) (F_wide : Cal P w K mg base 1 "_law_wide" (top 20) ["_law_number"] spWide) : Cal P w K mg base 2 "_law_next" (top 21) ["_law_cells"] spNx:=by
 refine ⟨f,fd,g,?_⟩
 refine fn3 g.fn sc_next (fun ts H Q h => ?_) (fun cdv A outer s H E ts H3 Q hr h => ?_)
 ·
  obtain ⟨a,rfl,_⟩:=h; rfl
 ·
  have hu30:=Room.u30 hr
  have hu31:=Room.u31 hr
  have hu1:=Room.u1 hr
  obtain ⟨a,rfl,D,k⟩:=h
  obtain ⟨ns,hc,hne,hlen⟩:=D.ex
  refine ⟨_,(ss3_cons (s3_set (i:=1) sc_next.nd (e3_bm PySem.F.plainAttrs_list PySem.F.slot_list_pop PySem.F.type_list_pop m3_popAt (v3 0) (a3_cons c3_int a3_nil)))
    (ss3_cons (s3_if (t3_cmp (o3_eq hu30) (v3 0) (e3_lst a3_nil)) (ss3_one (s3_expr (e3_bm PySem.F.plainAttrs_list PySem.F.slot_list_append PySem.F.type_list_append m3_append (v3 0) (a3_cons (e3_cl F_wide hr rfl (a3_cons (e3_op o3_add (v3 1) c3_int) a3_nil)) a3_nil)))) ss3_nil)
    (ss3_one (s3_ret (v3 1))))),?_⟩
  rw [show start3 N_next [T.ref a] = [some (T.ref a),none] from rfl]
  have hsz : sizeLine = 16777216:=rfl
  cases ns with
  | nil => exact absurd rfl hne
  | cons n0 r =>
   simp only [List.map_cons] at hc
   simp only [List.length_cons] at hlen
   walk_at "rd"
   refine ⟨⟨True.intro,True.intro⟩,by omega,fun p hp => ?_⟩
   obtain ⟨np,hp0⟩:=up3_none hp
   have np':=Ne.symm np
   have hpl : (r.map T.int).all (pl 20) = true:=by rw [List.all_eq_true]; intro t ht; obtain ⟨x,_,rfl⟩:=List.mem_map.mp ht; rfl
   walk_at "rd"
   refine ⟨True.intro,True.intro,rfl,?_⟩
   cases r with
   | nil =>
    simp only [List.map_nil,dec_rfl,if_true]
    walk_at "rd"
    refine ⟨⟨True.intro,True.intro⟩,n0 + 1,rfl,fun m hm => ?_⟩
    walk_at "rd"
    refine ⟨by omega,fin_drw (a:=a) (H:=H3) ⟨[m],up3_same,by simp,by simp⟩ (fun b o hb h1 => ?_) fun H'' hD => k _ _ hD⟩
    rw [up3_ne h1,up3_ne (ne3n hb hp0),up3_ne h1]
    exact hb
   | cons n1 r =>
    rw [decide_eq_false (by simp),if_neg Bool.false_ne_true]
    refine fin_drw (a:=a) (H:=H3) ⟨n1 :: r,by rw [up3_ne np',up3_same],by simp,by simp only [List.length_cons] at hlen ⊢; omega⟩ (fun b o hb h1 => ?_) fun H'' hD => k _ _ hD
    rw [up3_ne (ne3n hb hp0),up3_ne h1]
    exact hb
abbrev N_deck : List Str:=["_law_script","_law_cells"]
theorem sc_deck : FnScope N_deck ["_law_script"] (defScope (top 22)):=sc_mk
theorem ok_deck {f : Addr} {fd : FuncData} (g : G3 K mg "_law_deck" (top 22) ["_law_script"] f fd) (B : Bl mg) (F_wide : Cal P w K mg base 1 "_law_wide" (top 20) ["_law_number"] spWide) : Cal P w K mg base 2 "_law_deck" (top 22) ["_law_script"] spDk:=by
 refine ⟨f,fd,g,?_⟩
 refine fn3 g.fn sc_deck (fun ts H Q h => ?_) (fun cdv A outer s H E ts H3 Q hr h => ?_)
 ·
  obtain ⟨a,ns,rfl,_⟩:=h; rfl
 ·
  have hu30:=Room.u30 hr
  have hu31:=Room.u31 hr
  have hu1:=Room.u1 hr
  obtain ⟨a,ns,rfl,ha,hlen,k⟩:=h
  refine ⟨_,(ss3_cons (s3_set (i:=1) sc_deck.nd (e3_op o3_add (e3_callTy c3_list rfl B.list_ bt_list (a3_cons (e3_slice (v3 0) po3_none (po3_some c3_int)) a3_nil)) (e3_lst (a3_cons c3_int a3_nil))))
    (ss3_cons (s3_if (t3_cmp (o3_eq hu30) (e3_op o3_mod (e3_ix ix3 (v3 1) c3_int) c3_int) c3_int) (ss3_one (s3_ret (e3_op o3_add (e3_lst (a3_cons (e3_op o3_fdiv (e3_ix ix3 (v3 1) c3_int) c3_int) a3_nil)) (e3_slice (v3 1) (po3_some c3_int) po3_none)))) ss3_nil)
    (ss3_one (s3_ret (e3_lst (a3_cons (e3_cl F_wide hr rfl (a3_cons (e3_op o3_add (e3_op o3_fdiv (e3_ix ix3 (v3 1) c3_int) c3_int) (e3_callB (c3_sum rfl) rfl B.sum_ bt_sum (a3_cons (e3_slice (v3 1) (po3_some c3_int) po3_none) a3_nil))) a3_nil)) a3_nil)))))),?_⟩
  rw [show start3 N_deck [T.ref a] = [some (T.ref a),none] from rfl]
  have hsz : sizeLine = 16777216:=rfl
  have hcut : cut3 (ns.map T.int) none (some 63) = ns.map T.int:=by
   rw [show (63 : Int) = ((63 : Nat) : Int) from rfl,cut_to,List.take_of_length_le (by simpa using hlen)]
  obtain ⟨m0,mr,hm⟩ : ∃ m0 mr,ns ++ [7] = m0 :: mr:=by cases ns <;> exact ⟨_,_,rfl⟩
  have hm' : ns.map T.int ++ [T.int 7] = T.int m0 :: mr.map T.int:=by
   have:=congrArg (List.map T.int) hm
   simpa using this
  have hml : mr.length + 1 = ns.length + 1:=by have:=congrArg List.length hm; simpa using this.symm
  have hi : ints3 (mr.map T.int) = some mr:=ints3_map mr
  walk_at "rd"
  intro p hp
  have nap : a ≠ p:=ne3n ha hp
  walk_at "rd"
  intro p1 hp1
  obtain ⟨n1,hp1⟩:=up3_none hp1
  have n1':=Ne.symm n1
  refine ⟨by omega,fun p2 hp2 => ?_⟩
  obtain ⟨n2,hp2⟩:=up3_none hp2
  obtain ⟨n3,hp2⟩:=up3_none hp2
  have n2':=Ne.symm n2
  walk_at "rd"
  refine ⟨by omega,fun p3 hp3 => ?_⟩
  obtain ⟨n4,hp3⟩:=up3_none hp3
  obtain ⟨n5,hp3⟩:=up3_none hp3
  obtain ⟨n6,hp3⟩:=up3_none hp3
  walk_at "rd"
  have hS : Sub3 H3 (up3 (up3 (up3 (up3 H3 p (O3.lst (ns.map T.int))) p1 (O3.lst (ns.map T.int))) p2 (O3.lst [T.int 7])) p3 (O3.lst (T.int m0 :: mr.map T.int))):=sub_up hp3 (sub_up hp2 (sub_up hp1 (sub_up hp Sub3.refl)))
  refine ⟨by decide,?_⟩
  split
  ·
   refine ⟨⟨by decide,by decide +kernel⟩,by omega,fun p4 hp4 => ?_⟩
   have hp4':=hp4
   obtain ⟨n7,hp4⟩:=up3_none hp4
   obtain ⟨_,hp4⟩:=up3_none hp4
   obtain ⟨_,hp4⟩:=up3_none hp4
   obtain ⟨_,hp4⟩:=up3_none hp4
   have n7':=Ne.symm n7
   walk_at "rd"
   intro p5 hp5
   obtain ⟨n8,hp5⟩:=up3_none hp5
   have hp5':=hp5
   obtain ⟨n9,hp5⟩:=up3_none hp5
   obtain ⟨_,hp5⟩:=up3_none hp5
   obtain ⟨_,hp5⟩:=up3_none hp5
   obtain ⟨_,hp5⟩:=up3_none hp5
   have n8':=Ne.symm n8
   walk_at "rd"
   refine ⟨by omega,fun p6 hp6 => ?_⟩
   have hp60 : H3 p6 = none:=by
    obtain ⟨_,hp6⟩:=up3_none hp6
    obtain ⟨_,hp6⟩:=up3_none hp6
    obtain ⟨_,hp6⟩:=up3_none hp6
    obtain ⟨_,hp6⟩:=up3_none hp6
    obtain ⟨_,hp6⟩:=up3_none hp6
    exact (up3_none hp6).2
   refine Fin3.of Sub3.refl (k p6 _ (sub_up hp60 (sub_up hp5 (sub_up hp4 hS))) hp60 ⟨(m0 / 2) :: mr,by rw [up3_same]; rfl,by simp,by simp only [List.length_cons]; omega⟩)
  ·
   refine ⟨⟨by decide,by decide +kernel⟩,fun p4 hp4 => ?_⟩
   have hp40 : H3 p4 = none:=by
    obtain ⟨_,hp4⟩:=up3_none hp4
    obtain ⟨_,hp4⟩:=up3_none hp4
    obtain ⟨_,hp4⟩:=up3_none hp4
    exact (up3_none hp4).2
   walk_at "rd"
   refine ⟨_,rfl,fun m hm0 => ?_⟩
   walk_at "rd"
   refine ⟨by omega,fun p5 hp5 => ?_⟩
   have hp50 : H3 p5 = none:=by
    obtain ⟨_,hp5⟩:=up3_none hp5
    obtain ⟨_,hp5⟩:=up3_none hp5
    obtain ⟨_,hp5⟩:=up3_none hp5
    obtain ⟨_,hp5⟩:=up3_none hp5
    exact (up3_none hp5).2
   exact Fin3.of Sub3.refl (k p5 _ (sub_up hp50 (sub_up hp40 hS)) hp50 ⟨[m],up3_same,by simp,by simp⟩)
def spTu : Sp3:=fun ts H Q => ∃ (α : Type) (f : α -> T) (n : Int) (a : Addr) (xs : List α),ts = [.int n,.ref a] /\ H a = some (.lst (xs.map f)) /\ xs.length <= 100 /\ ∀ (p : Addr) (ys : List α),H p = none -> ys.Perm xs -> Q (.ref p) (up3 H p (.lst (ys.map f)))
theorem erase_map {α β : Type} (f : α -> β) : ∀ (l : List α) (j : Nat),(l.map f).eraseIdx j = (l.eraseIdx j).map f
 | [],_ => rfl
 | x :: l,0 => rfl
 | x :: l,j + 1 => by simp only [List.map_cons,List.eraseIdx_cons_succ,erase_map f l j]
def spOs : Sp3:=fun ts H Q => ∃ (n : Int) (a : Addr) (b : Int) (ws : List Str),ts = [.int n,.ref a,.int b] /\ H a = some (.lst (ws.map T.str)) /\ ws.Nodup /\ ws.length <= 8 /\ 1 <= b /\ b <= 100 /\ ∀ (p : Addr) (os : List (Str × Str)),H p = none -> os.length <= 28 -> os.Nodup -> (∀ o ∈ os,o.1 ≠ o.2 /\ o.1 ∈ ws /\ o.2 ∈ ws) -> Q (.ref p) (up3 H p (.lst (os.map orT)))
def spPs : Sp3:=fun ts H Q => ∃ (n : Int) (a : Addr) (m wi : Int) (ws : List Str),ts = [.int n,.ref a,.int m,.int wi] /\ H a = some (.lst (ws.map T.str)) /\ 1 <= ws.length /\ ws.length <= 8 /\ 0 <= m /\ m <= 12 /\ ∀ ps : List (Str × Str × Str),ps.length <= 12 -> ps.Nodup -> (∀ p ∈ ps,(p.1 = "with" \/ p.1 = "apart") /\ p.2.1 ≠ p.2.2 /\ p.2.1 ∈ ws /\ p.2.2 ∈ ws) -> Q (.tup (ps.map prT)) H
theorem log_small {j : Int} (h : j.natAbs <= 8000) : j.natAbs.log2 < 9000:=Nat.lt_of_le_of_lt (Nat.log2_le_self _) (by omega)
theorem sub_of {H3 H : Hp3} {p : Addr} {o : O3} (hS : Sub3 H3 H) (hp : H p = some o) : Sub3 (up3 H3 p o) H:=fun b u hb => by
 by_cases e : b = p
 ·
  subst e; rw [up3_same] at hb; rw [hp]; exact hb
 ·
  rw [up3_ne e] at hb; exact hS b u hb
theorem perm_erase {α : Type} : ∀ {l : List α} {j : Nat} (h : j < l.length),(l[j] :: l.eraseIdx j).Perm l
 | x :: l,0,_ => .refl _
 | x :: l,j + 1,h => (List.Perm.swap x _ (l.eraseIdx j)).trans ((perm_erase (l:=l) (j:=j) (by simpa using h)).cons x)
theorem none_of {H3 H : Hp3} {q : Addr} (hS : Sub3 H3 H) (hq : H q = none) : H3 q = none:=by
 cases e : H3 q with
 | none => rfl
 | some o => rw [hS q o e] at hq; cases hq
abbrev N_turn : List Str:=["_law_cell","_law_names_here","_law_left","_law_turn_here","_law_k","_law_at_here"]
theorem sc_turn : FnScope N_turn ["_law_cell","_law_names_here"] (defScope (top 24)):=sc_mk
theorem ok_turn {f : Addr} {fd : FuncData} (g : G3 K mg "_law_turn" (top 24) ["_law_cell","_law_names_here"] f fd) (B : Bl mg) : Cal P w K mg base 1 "_law_turn" (top 24) ["_law_cell","_law_names_here"] spTu:=by
 refine ⟨f,fd,g,?_⟩
 refine fn3 g.fn sc_turn (fun ts H Q h => ?_) (fun cdv A outer s H E ts H3 Q hr h => ?_)
 ·
  obtain ⟨α,fe,n,a,xs,rfl,_⟩:=h; rfl
 ·
  have hu30:=Room.u30 hr
  have hu31:=Room.u31 hr
  have hu1:=Room.u1 hr
  obtain ⟨α,fe,n,a,xs,rfl,ha,hxl,k⟩:=h
  refine ⟨_,(ss3_cons (s3_set (i:=2) sc_turn.nd (e3_callTy c3_list rfl B.list_ bt_list (a3_cons (v3 1) a3_nil)))
    (ss3_cons (s3_set (i:=3) sc_turn.nd (e3_lst a3_nil))
    (ss3_cons (s3_for PassesOwn.never rfl (i3_range1 rfl B.range_ (a3_cons (e3_callB c3_len rfl B.len_ bt_len (a3_cons (v3 1) a3_nil)) a3_nil)) (g3_name (i:=4) sc_turn.nd) (ss3_cons (s3_set (i:=5) sc_turn.nd (e3_op o3_mod (v3 0) (e3_callB c3_len rfl B.len_ bt_len (a3_cons (v3 2) a3_nil))))
     (ss3_cons (s3_set (i:=0) sc_turn.nd (e3_op o3_fdiv (v3 0) (e3_callB c3_len rfl B.len_ bt_len (a3_cons (v3 2) a3_nil))))
     (ss3_one (s3_expr (e3_bm PySem.F.plainAttrs_list PySem.F.slot_list_append PySem.F.type_list_append m3_append (v3 3) (a3_cons (e3_bm PySem.F.plainAttrs_list PySem.F.slot_list_pop PySem.F.type_list_pop m3_popAt (v3 2) (a3_cons (v3 5) a3_nil)) a3_nil)))))))
    (ss3_one (s3_ret (v3 3)))))),?_⟩
  rw [show start3 N_turn [T.int n,T.ref a] = [some (T.int n),some (T.ref a),none,none,none,none] from rfl]
  have hsz : sizeLine = 16777216:=rfl
  walk_at "rd"
  intro q hq
  refine ⟨by omega,fun p hp => ?_⟩
  obtain ⟨npq,hp0⟩:=up3_none hp
  have npq':=Ne.symm npq
  have nap : a ≠ p:=ne3n ha hp0
  have naq : a ≠ q:=ne3n ha hq
  walk_at "rd"
  refine ⟨True.intro,by omega,by omega,?_⟩
  have hrl : (rng3 0 ((xs.length : Int)).toNat).length = xs.length:=by simp [rng3]
  simp only [Int.toNat_natCast] at hrl
  generalize rng3 0 xs.length = ts0 at hrl
  refine iter_go (fun r σ H' => ∃ (ls ys : List α) (c : Int) (v4 v5 : Option T),σ = [some (.int c),some (.ref a),some (.ref q),some (.ref p),v4,v5] /\ H' q = some (.lst (ls.map fe)) /\ H' p = some (.lst (ys.map fe)) /\ (ys ++ ls).Perm xs /\ ls.length = r.length /\ Sub3 H3 H')
   ⟨xs,[],n,none,none,rfl,by rw [up3_ne npq',up3_same],up3_same,by simp,hrl.symm,sub_up hp0 (sub_up hq Sub3.refl)⟩ ?_ ?_
  ·
   rintro σ H' ⟨ls,ys,c,v4,v5,rfl,h1,h2,hP,hl,hS⟩
   have : ls = []:=List.eq_nil_of_length_eq_zero hl
   subst this
   rw [List.append_nil] at hP
   refine ⟨trivial,?_⟩
   walk_at "rd"
   exact Fin3.of (sub_of hS h2) (k p ys hp0 hP)
  ·
   rintro x r σ H' N ⟨ls,ys,c,v4,v5,rfl,h1,h2,hP,hl,hS⟩ hN
   simp only [List.length_cons] at hl
   have hpl:=hP.length_eq
   rw [List.length_append] at hpl
   have hpos : (0 : Int) < (ls.length : Int):=by omega
   obtain ⟨j,hj⟩:=Int.eq_ofNat_of_zero_le (Int.emod_nonneg c (show (ls.length : Int) ≠ 0 by omega))
   have hj2 : j < ls.length:=by have:=Int.emod_lt_of_pos c hpos; omega
   have e1 : ixN ls.length (c % (ls.length : Int)) = some j:=by rw [hj]; exact ixN_nat hj2
   have e2 : (ls.map fe)[j]? = some (fe ls[j]):=by rw [List.getElem?_map,List.getElem?_eq_getElem hj2]; rfl
   have e3:=erase_map fe ls j
   have hlog : ((ls.length : Int)).natAbs.log2 < 9000:=log_small (by omega)
   refine ⟨trivial,?_⟩
   have hl1 : r.length + 1 <= ls.length:=by omega
   have hl2 : ls.length <= r.length + 1:=by omega
   have hyl : ys.length <= 100:=by omega
   clear hj hl hpl
   walk_at "rd"
   refine ⟨by first | trivial | omega,⟨by omega,hlog⟩,⟨True.intro,True.intro⟩,⟨True.intro,True.intro⟩,by omega,?_⟩
   refine hN _ _ ⟨ls.eraseIdx j,ys ++ [ls[j]],_,_,_,rfl,by rw [up3_ne npq',up3_same],by rw [up3_same]; simp,?_,?_,sub_up hp0 (sub_up hq hS)⟩
   ·
    refine List.Perm.trans ?_ hP
    rw [List.append_assoc]
    exact List.Perm.append_left ys (perm_erase hj2)
   ·
    rw [List.length_eraseIdx_of_lt hj2]; omega
abbrev N_orders : List Str:=["_law_cell","_law_turn_here","_law_often","_law_orders_here","_law_k","_law_one","_law_other"]
theorem sc_orders : FnScope N_orders ["_law_cell","_law_turn_here","_law_often"] (defScope (top 25)):=sc_mk
theorem ok_orders {f : Addr} {fd : FuncData} (g : G3 K mg "_law_orders" (top 25) ["_law_cell","_law_turn_here","_law_often"] f fd) (B : Bl mg) : Cal P w K mg base 1 "_law_orders" (top 25) ["_law_cell","_law_turn_here","_law_often"] spOs:=by
 refine ⟨f,fd,g,?_⟩
 refine fn3 g.fn sc_orders (fun ts H Q h => ?_) (fun cdv A outer s H E ts H3 Q hr h => ?_)
 ·
  obtain ⟨n,a,b,ws,rfl,_⟩:=h; rfl
 ·
  have hu30:=Room.u30 hr
  have hu31:=Room.u31 hr
  have hu1:=Room.u1 hr
  obtain ⟨n,a,b,ws,rfl,ha,hnd,h8,b1,b2,k⟩:=h
  refine ⟨_,(ss3_cons (s3_set (i:=3) sc_orders.nd (e3_lst a3_nil))
    (ss3_cons (s3_for PassesOwn.never rfl (i3_enum0 rfl B.enumerate_ (v3 1)) (g3_tup (n:=2) rfl (gs3_cons (g3_name (i:=4) sc_orders.nd) (gs3_cons (g3_name (i:=5) sc_orders.nd) gs3_nil))) (ss3_one (s3_for PassesOwn.never rfl (i3_list (e3_slice (v3 1) (po3_some (e3_op o3_add (v3 4) c3_int)) po3_none)) (g3_name (i:=6) sc_orders.nd) (ss3_cons (s3_if (t3_cmp (o3_eq hu30) (e3_op o3_mod (v3 0) (v3 2)) c3_int) (ss3_one (s3_expr (e3_bm PySem.F.plainAttrs_list PySem.F.slot_list_append PySem.F.type_list_append m3_append (v3 3) (a3_cons (e3_tup (a3_cons (v3 5) (a3_cons (v3 6) a3_nil))) a3_nil)))) ss3_nil)
      (ss3_one (s3_set (i:=0) sc_orders.nd (e3_op o3_fdiv (v3 0) (v3 2))))))))
    (ss3_one (s3_ret (v3 3))))),?_⟩
  rw [show start3 N_orders [T.int n,T.ref a,T.int b] = [some (T.int n),some (T.ref a),some (T.int b),none,none,none,none] from rfl]
  have hsz : sizeLine = 16777216:=rfl
  walk_at "rd"
  refine ⟨by omega,fun p hp => ?_⟩
  have nap : a ≠ p:=ne3n ha hp
  walk_at "rd"
  refine iter_go (fun r σ H' => ∃ (A B : List Str) (os pre : _) (c : Int) (v4 v5 v6 : Option T),ws = A ++ B /\ r = enum0 A.length (B.map T.str) /\ σ = [some (.int c),some (.ref a),some (.int b),some (.ref p),v4,v5,v6] /\ H' p = some (.lst (os.map orT)) /\ H' a = some (.lst (ws.map T.str)) /\ pre ++ pairsOf B = pairsOf ws /\ os.Sublist pre /\ Sub3 H3 H')
   ⟨[],ws,[],[],n,none,none,none,rfl,rfl,rfl,up3_same,by rw [up3_ne nap]; exact ha,rfl,List.Sublist.refl _,Sub3.new hp⟩ ?_ ?_
  ·
   rintro σ H' ⟨A,B,os,pre,c,v4,v5,v6,e1,e2,rfl,h1,h2,hpre,hsub,hS⟩
   have hB : B = []:=by
    cases B with
    | nil => rfl
    | cons x B => simp [enum0] at e2
   subst hB
   simp only [pairsOf,List.append_nil] at hpre
   subst hpre
   refine ⟨.inl h2,?_⟩
   walk_at "rd"
   exact Fin3.of (sub_of hS h1) (k p os hp (Nat.le_trans hsub.length_le (pairsOf_28 h8)) (hsub.nodup (pairsOf_nd hnd)) fun o ho => ⟨pairsOf_ne hnd (hsub.subset ho),pairsOf_mem (hsub.subset ho)⟩)
  ·
   rintro x r σ H' N ⟨A,B,os,pre,c,v4,v5,v6,e1,e2,rfl,h1,h2,hpre,hsub,hS⟩ hN
   cases B with
   | nil => simp [enum0] at e2
   | cons y B =>
    rw [List.map_cons,enum0,List.cons.injEq] at e2
    obtain ⟨rfl,rfl⟩:=e2
    have ecut : cut3 (ws.map T.str) (some ((A.length : Int) + 1)) none = B.map T.str:=by
     rw [show ((A.length : Int) + 1) = ((A.length + 1 : Nat) : Int) by omega,cut_from,e1,<- List.map_drop]
     congr 1
     rw [show A ++ y :: B = (A ++ [y]) ++ B by simp,List.drop_left' (by simp)]
    refine ⟨.inl h2,?_⟩
    walk_at "rd"
    refine ⟨trivial,fun q hq => ?_⟩
    rw [e1] at ecut
    rw [ecut]
    have npq : p ≠ q:=ne3n h1 hq
    have naq : a ≠ q:=ne3n h2 hq
    have hpre' : pre ++ (B.map (fun z => (y,z)) ++ pairsOf B) = pairsOf ws:=hpre
    have hlen : ∀ E C : List Str,B = E ++ C -> (pre ++ E.map (fun z => (y,z))).length <= 28:=fun E C eB => by
     have h28:=pairsOf_28 h8
     rw [<- hpre',eB] at h28
     simp only [List.length_append,List.length_map] at h28 ⊢
     omega
    refine iter_go (fun r σ H'' => ∃ (E C : List Str) (os' : List (Str × Str)) (c' : Int) (v6' : Option T),B = E ++ C /\ r = C.map T.str /\ σ = [some (.int c'),some (.ref a),some (.int b),some (.ref p),some (.int A.length),some (.str y),v6'] /\ H'' q = some (.lst (B.map T.str)) /\ H'' p = some (.lst (os'.map orT)) /\ H'' a = some (.lst (ws.map T.str)) /\ os'.Sublist (pre ++ E.map (fun z => (y,z))) /\ Sub3 H3 H'')
     ⟨[],B,os,c,v6,rfl,rfl,rfl,up3_same,by rw [up3_ne npq]; exact h1,by rw [up3_ne naq]; exact h2,by simpa using hsub,sub_up (none_of hS hq) hS⟩ ?_ ?_
    ·
     rintro σ H'' ⟨E,C,os',c',v6',eB,e2,rfl,g1,g2,g3,gs,gS⟩
     have hC : C = []:=List.map_eq_nil_iff.mp e2.symm
     subst hC
     rw [List.append_nil] at eB
     subst eB
     refine ⟨.inl g1,hN _ _ ⟨A ++ [y],B,os',_,c',_,_,_,by rw [e1]; simp,?_,rfl,g2,g3,?_,gs,gS⟩⟩
     ·
      rw [List.length_append,List.length_singleton,Int.natCast_add]; rfl
     ·
      rw [List.append_assoc]; exact hpre'
    ·
     rintro x r σ H'' N' ⟨E,C,os',c',v6',eB,e2,rfl,g1,g2,g3,gs,gS⟩ hN'
     cases C with
     | nil => cases e2
     | cons z C =>
      rw [List.map_cons,List.cons.injEq] at e2
      obtain ⟨rfl,rfl⟩:=e2
      have hl28:=Nat.le_trans gs.length_le (hlen E (z :: C) eB)
      have hlog : b.natAbs.log2 < 9000:=log_small (by omega)
      have hlog' : CDiv3 c' b:=⟨by omega,hlog⟩
      have hb0 : 0 < b:=by omega
      refine ⟨.inl g1,?_⟩
      clear hN hpre hpre' hlen hsub
      have nx1:=fun v6 => hN' [some (.int (c' / b)),some (.ref a),some (.int b),some (.ref p),some (.int A.length),some (.str y),v6] (up3 H'' p (.lst (os'.map orT ++ [orT (y,z)]))) ⟨E ++ [z],C,os' ++ [(y,z)],_,_,by rw [eB]; simp,rfl,rfl,by rw [up3_ne (Ne.symm npq)]; exact g1,by rw [up3_same]; simp,by rw [up3_ne nap]; exact g3,by
       rw [List.map_append,<- List.append_assoc]; exact gs.append (List.Sublist.refl _),sub_up hp gS⟩
      have nx2:=fun v6 => hN' [some (.int (c' / b)),some (.ref a),some (.int b),some (.ref p),some (.int A.length),some (.str y),v6] H'' ⟨E ++ [z],C,os',_,_,by rw [eB]; simp,rfl,rfl,g1,g2,g3,by
       rw [List.map_append,<- List.append_assoc]; exact gs.trans (List.sublist_append_left _ _),gS⟩
      clear hN' e1 eB ecut gs
      walk_at "rd"
      refine ⟨by first | trivial | omega,?_⟩
      split
      ·
       refine ⟨⟨True.intro,True.intro⟩,by decide,by omega,by first | trivial | exact hlog',?_⟩
       first | trivial | exact nx1 _
      ·
       refine ⟨by first | trivial | exact hlog',?_⟩
       first | trivial | exact nx2 _
abbrev N_pairs : List Str:=["_law_cell","_law_names_here","_law_many","_law_withs","_law_pairs_here","_law_k","_law_one","_law_other","_law_pair"]
theorem sc_pairs : FnScope N_pairs ["_law_cell","_law_names_here","_law_many","_law_withs"] (defScope (top 26)):=sc_mk
theorem ok_pairs {f : Addr} {fd : FuncData} (g : G3 K mg "_law_pairs" (top 26) ["_law_cell","_law_names_here","_law_many","_law_withs"] f fd) (B : Bl mg) : Cal P w K mg base 1 "_law_pairs" (top 26) ["_law_cell","_law_names_here","_law_many","_law_withs"] spPs:=by
 refine ⟨f,fd,g,?_⟩
 refine fn3 g.fn sc_pairs (fun ts H Q h => ?_) (fun cdv A outer s H E ts H3 Q hr h => ?_)
 ·
  obtain ⟨n,a,m,wi,ws,rfl,_⟩:=h; rfl
 ·
  have hu30:=Room.u30 hr
  have hu31:=Room.u31 hr
  have hu1:=Room.u1 hr
  obtain ⟨n,a,m,wi,ws,rfl,ha,w1,w8,m0,m12,k⟩:=h
  refine ⟨_,(ss3_cons (s3_set (i:=4) sc_pairs.nd (e3_lst a3_nil))
    (ss3_cons (s3_for PassesOwn.never rfl (i3_range1 rfl B.range_ (a3_cons (v3 2) a3_nil)) (g3_name (i:=5) sc_pairs.nd) (ss3_cons (s3_set (i:=6) sc_pairs.nd (e3_ix ix3 (v3 1) (e3_op o3_mod (v3 0) (e3_callB c3_len rfl B.len_ bt_len (a3_cons (v3 1) a3_nil)))))
     (ss3_cons (s3_set (i:=7) sc_pairs.nd (e3_ix ix3 (v3 1) (e3_op o3_mod (e3_op o3_fdiv (v3 0) c3_int) (e3_callB c3_len rfl B.len_ bt_len (a3_cons (v3 1) a3_nil)))))
     (ss3_cons (s3_set (i:=8) sc_pairs.nd (e3_tup (a3_cons (e3_ix ix3 (e3_lst (a3_cons c3_str (a3_cons c3_str a3_nil))) (e3_callTy c3_int' rfl B.int_ bt_int (a3_cons (e3_cmp o3_lt (e3_op o3_mod (e3_op o3_fdiv (v3 0) c3_int) c3_int) (v3 3)) a3_nil))) (a3_cons (v3 6) (a3_cons (v3 7) a3_nil)))))
     (ss3_cons (s3_if (PW3.pt (w3_and (t3_cmp (o3_ne hu30) (v3 6) (v3 7)) (w3_and1 (t3_cmp (o3_notin hu31) (v3 8) (v3 4) rfl)))) (ss3_one (s3_expr (e3_bm PySem.F.plainAttrs_list PySem.F.slot_list_append PySem.F.type_list_append m3_append (v3 4) (a3_cons (v3 8) a3_nil)))) ss3_nil)
     (ss3_one (s3_set (i:=0) sc_pairs.nd (e3_op o3_fdiv (v3 0) c3_int))))))))
    (ss3_one (s3_ret (e3_callTy c3_tuple rfl B.tuple_ bt_tuple (a3_cons (v3 4) a3_nil)))))),?_⟩
  rw [show start3 N_pairs [T.int n,T.ref a,T.int m,T.int wi] = [some (T.int n),some (T.ref a),some (T.int m),some (T.int wi),none,none,none,none,none] from rfl]
  have hsz : sizeLine = 16777216:=rfl
  walk_at "rd"
  refine ⟨by omega,fun p hp => ?_⟩
  have nap : a ≠ p:=ne3n ha hp
  refine ⟨True.intro,by omega,by omega,?_⟩
  have hrl : (rng3 0 m.toNat).length = m.toNat:=by simp [rng3]
  generalize rng3 0 m.toNat = ts0 at hrl
  refine iter_go (fun r σ H' => ∃ (ps : List (Str × Str × Str)) (c : Int) (v5 v6 v7 v8 : Option T),σ = [some (.int c),some (.ref a),some (.int m),some (.int wi),some (.ref p),v5,v6,v7,v8] /\ ps.length + r.length <= m.toNat /\ ps.Nodup /\ (∀ o ∈ ps,(o.1 = "with" \/ o.1 = "apart") /\ o.2.1 ≠ o.2.2 /\ o.2.1 ∈ ws /\ o.2.2 ∈ ws) /\ H' p = some (.lst (ps.map prT)) /\ Sub3 H3 H')
   ⟨[],n,none,none,none,none,rfl,by simp [hrl],List.nodup_nil,(fun _ h => nomatch h),up3_same,Sub3.new hp⟩ ?_ ?_
  ·
   rintro σ H' ⟨ps,c,v5,v6,v7,v8,rfl,hl,hnd,hps,hH,hS⟩
   refine ⟨trivial,?_⟩
   walk_at "rd"
   simp only [List.length_nil,Nat.add_zero] at hl
   exact Fin3.of hS (k ps (by omega) hnd hps)
  ·
   rintro x r σ H' N ⟨ps,c,v5,v6,v7,v8,rfl,hl,hnd,hps,hH,hS⟩ hN
   simp only [List.length_cons] at hl
   have haH : H' a = some (.lst (ws.map T.str)):=hS a _ ha
   have hpos : (0 : Int) < (ws.length : Int):=by omega
   obtain ⟨x1,hx1,e1⟩:=at_ex ws (c % (ws.length : Int)) (Int.emod_nonneg _ (by omega)) (Int.emod_lt_of_pos _ hpos)
   obtain ⟨x2,hx2,e2⟩:=at_ex ws (c / 8 % (ws.length : Int)) (Int.emod_nonneg _ (by omega)) (Int.emod_lt_of_pos _ hpos)
   have e1' : atI (ws.map T.str) (c % (ws.length : Int)) = some (.str x1):=by rw [at_map,e1]; rfl
   have e2' : atI (ws.map T.str) (c / 8 % (ws.length : Int)) = some (.str x2):=by rw [at_map,e2]; rfl
   refine ⟨trivial,?_⟩
   clear e1 e2
   walk_at "rd"
   refine ⟨trivial,⟨by decide,by decide +kernel⟩,trivial,by decide,fun q hq => ?_⟩
   refine ⟨⟨by decide,by decide +kernel⟩,by decide,?_⟩
   have npq : p ≠ q:=ne3n hH hq
   have hS2 : Sub3 H3 (up3 H' q (O3.lst [T.str "apart",T.str "with"])):=sub_up (none_of hS hq) hS
   have hH2 : up3 H' q (O3.lst [T.str "apart",T.str "with"]) p = some (.lst (ps.map prT)):=by rw [up3_ne npq]; exact hH
   obtain ⟨z,hz,ez⟩ : ∃ z : Str,(z = "with" \/ z = "apart") /\ atI [T.str "apart",T.str "with"] (if decide (c / 64 % 6 < wi) = true then 1 else 0) = some (T.str z):=by
    split
    ·
     exact ⟨"with",.inl rfl,at1 _ _ _⟩
    ·
     exact ⟨"apart",.inr rfl,at0 _ _⟩
   rw [ez,q_oq]
   refine ⟨by decide,?_⟩
   generalize up3 H' q (O3.lst [T.str "apart",T.str "with"]) = HH at hS2 hH2
   have cd : CDiv3 c 384:=⟨by decide,by decide +kernel⟩
   have nx : ∀ v8 v7 v6 v5,N [some (.int (c / 384)),some (.ref a),some (.int m),some (.int wi),some (.ref p),v5,v6,v7,v8] HH:=fun v8 v7 v6 v5 => hN _ _ ⟨ps,_,_,_,_,_,rfl,by omega,hnd,hps,hH2,hS2⟩
   rw [show T.tup [T.str z,T.str x1,T.str x2] = prT (z,x1,x2) from rfl]
   split
   ·
    rename_i hne
    have hne' : x1 ≠ x2:=by simpa using hne
    rw [hH2,q_inH]
    refine ⟨pl_prT _,pl_prs _,?_⟩
    rw [q_bq]
    split
    ·
     rename_i hin
     have hin':=(memN prT_inj).mp hin
     rw [hH2,q_tyH,q_apH,List.length_map]
     refine ⟨⟨trivial,trivial⟩,by omega,cd,hN _ _ ⟨ps ++ [(z,x1,x2)],_,_,_,_,_,rfl,by simp only [List.length_append,List.length_singleton]; omega,nd_snoc hnd hin',fun o ho => ?_,by rw [up3_same,List.map_append]; rfl,sub_up hp hS2⟩⟩
     rcases List.mem_append.mp ho with ho | ho
     ·
      exact hps o ho
     ·
      rw [List.mem_singleton.mp ho]
      exact ⟨hz,hne',hx1,hx2⟩
    ·
     exact ⟨cd,nx _ _ _ _⟩
   ·
    exact ⟨cd,nx _ _ _ _⟩
def spNs : Sp3:=fun ts H Q => ∃ n m : Int,ts = [.int n,.int m] /\ 0 <= m /\ m <= 8 /\ ∀ (p : Addr) (ws : List Str),H p = none -> Nms ws -> (ws.length : Int) = m -> Q (.ref p) (up3 H p (.lst (ws.map T.str)))
theorem up3_id {H : Hp3} {a : Addr} {o : O3} (h : H a = some o) : up3 H a o = H:=by
 funext b
 by_cases e : b = a
 ·
  subst e; rw [up3_same,h]
 ·
  rw [up3_ne e]
theorem ns_for {D : Ends3} {x0 x1 x3 x4 x5 x6 x7 x8 x12 : Option T} {own long : Int} {wd : Addr} {H : Hp3} (h1 : 1 <= long) (h8 : long <= 8) (hw : H wd = some (.lst []))
  (hn : ∀ (l : List Nat) (own' : Int) (x12' : Option T),(l.length : Int) = long -> (∀ c ∈ l,97 <= c /\ c <= 122) -> D.nx [x0,x1,some (.str (mkS abcL)),x3,x4,x5,x6,x7,x8,some (.int own'),some (.int long),some (.ref wd),x12'] (up3 H wd (.lst (l.map sgT)))) :
  iter3 (gName3 12) (tSeq3 (tDrop3 (tBM3 "list" r3App (tVar3 11) (tCons3 (tOp3 r3Ix (tVar3 2) (tOp3 (rI3 (fun x j => 0 < j) fun i j => T.int (i % j)) (tVar3 9) (tC3 (T.int 26)))) tNil3))) (tAsg3 (tOp3 (rI3 CDiv3 fun i j => T.int (i / j)) (tVar3 9) (tC3 (T.int 26))) (gName3 9))) D still0 (rng3 0 long.toNat)
   [x0,x1,some (.str (mkS abcL)),x3,x4,x5,x6,x7,x8,some (.int own),some (.int long),some (.ref wd),x12] H:=by
 have hsz : sizeLine = 16777216:=rfl
 have al : (mkS abcL).length <= sizeLine:=by rw [mkS_len]; decide
 have hrl : (rng3 0 long.toNat).length = long.toNat:=by simp [rng3]
 generalize rng3 0 long.toNat = ts0 at hrl
 refine iter_go (fun r σ H' => ∃ (l : List Nat) (own' : Int) (v : Option T),σ = [x0,x1,some (.str (mkS abcL)),x3,x4,x5,x6,x7,x8,some (.int own'),some (.int long),some (.ref wd),v] /\ l.length + r.length = long.toNat /\ (∀ c ∈ l,97 <= c /\ c <= 122) /\ H' = up3 H wd (.lst (l.map sgT)))
  ⟨[],own,x12,rfl,by simpa using hrl,(fun _ h => nomatch h),(up3_id hw).symm⟩ ?_ ?_
 ·
  rintro σ H' ⟨l,own',v,rfl,hl,hlet,rfl⟩
  simp only [List.length_nil,Nat.add_zero] at hl
  exact ⟨trivial,hn l own' v (by omega) hlet⟩
 ·
  rintro x r σ H' N ⟨l,own',v,rfl,hl,hlet,rfl⟩ hN
  simp only [List.length_cons] at hl
  have ha:=abc_at (own' % 26) (Int.emod_nonneg _ (by decide)) (Int.emod_lt_of_pos _ (by decide))
  have hb:=Int.emod_lt_of_pos own' (show (0 : Int) < 26 by decide)
  refine ⟨trivial,?_⟩
  clear hn hw
  walk_at "rd"
  simp only [mkS_cps,ha,q_oq]
  walk_at "rd"
  refine ⟨⟨True.intro,True.intro⟩,by decide,al,by omega,⟨by decide,by decide +kernel⟩,?_⟩
  refine hN _ _ ⟨l ++ [97 + (own' % 26).toNat],_,_,rfl,by simp only [List.length_append,List.length_singleton]; omega,fun y hy => ?_,by simp [sgT]⟩
  rcases List.mem_append.mp hy with hy | hy
  ·
   exact hlet y hy
  ·
   rw [List.mem_singleton.mp hy]; omega
theorem ns_while {D : Ends3} {x0 x1 x3 x4 x5 x6 x8 x9 x10 x12 : Option T} {p wd : Addr} {ws : List Str} {H : Hp3} (hp : H p = some (.lst (ws.map T.str))) (hne : p ≠ wd) (hw7 : ws.length <= 7) (l : List Nat) (hw : H wd = some (.lst (l.map sgT))) (h1 : 1 <= l.length) (h8 : l.length <= 8) (hl : ∀ x ∈ l,97 <= x /\ x <= 122)
  (hnx : ∀ l' : List Nat,l'.length <= 8 -> isNm (mkS l') -> mkS l' ∉ ws -> D.nx [x0,x1,some (.str (mkS abcL)),x3,x4,x5,x6,some (.ref p),x8,x9,x10,some (.ref wd),x12] (up3 H wd (.lst (l'.map sgT)))) :
  tWhile3 (tTest3 (tOp3 (r3In false) (tBM3 "str" r3Join (tC3 (T.str (Str.ofString ""))) (tCons3 (tVar3 11) tNil3)) (tVar3 7)))
   (tAsg3 (tOp3 r3Ix (tVar3 2) (tOp3 (rI3 (fun x j => 0 < j) fun i j => T.int (i % j)) (tOp3 rAdd3 (tBM3 "str" r3Index (tVar3 2) (tCons3 (tOp3 r3Ix (tVar3 11) (tC3 (T.int 0))) tNil3)) (tC3 (T.int 1))) (tC3 (T.int 26)))) (gSub3 (tVar3 11) (tC3 (T.int 0)) r3SetL)) D
   [x0,x1,some (.str (mkS abcL)),x3,x4,x5,x6,some (.ref p),x8,x9,x10,some (.ref wd),x12] H:=by
 have hsz : sizeLine = 16777216:=rfl
 have al : (mkS abcL).length <= sizeLine:=by rw [mkS_len]; decide
 refine ⟨fun m σ H' => ∃ (c : Nat) (r : List Nat),σ = [x0,x1,some (.str (mkS abcL)),x3,x4,x5,x6,some (.ref p),x8,x9,x10,some (.ref wd),x12] /\ H' = up3 H wd (.lst ((c :: r).map sgT)) /\ r.length <= 7 /\ (∀ x ∈ c :: r,97 <= x /\ x <= 122) /\ ∀ w ∈ ws,w.cps.toList.head? ≠ some (97 + (c - 97 + m) % 26),?_,?_⟩
 ·
  cases l with
  | nil => simp at h1
  | cons c r =>
   obtain ⟨hc0,hc1⟩:=hl c List.mem_cons_self
   obtain ⟨m,hm⟩:=free_letter c hc0 hc1 ws hw7
   exact ⟨m,c,r,rfl,(up3_id hw).symm,by simp only [List.length_cons] at h8; omega,hl,hm⟩
 ·
  rintro m σ H' ⟨c,r,rfl,rfl,hr,hl,hm⟩
  obtain ⟨hc0,hc1⟩:=hl c List.mem_cons_self
  have es:=strs_sg (c :: r)
  have ej:=jn_sg (c :: r)
  have eo : jOk "" ((c :: r).map sg):=ok_sg (by simp only [List.length_cons]; omega)
  have nxt : isNm (mkS (c :: r)):=nm_mk (by simp) (by simp only [List.length_cons]; omega) hl
  have hcons : (c :: r).map sgT = T.str ⟨#[c]⟩ :: r.map sgT:=rfl
  have hix:=abc_ix c hc0 hc1
  have ha:=abc_at ((((c - 97 : Nat) : Int) + 1) % 26) (Int.emod_nonneg _ (by decide)) (Int.emod_lt_of_pos _ (by decide))
  clear hw
  generalize hcr : (c :: r).map sg = crs at es ej eo
  simp only [tTest3,tOp3,tBM3,tC3,tCons3,tNil3,q_var,List.getElem?_cons_zero,List.getElem?_cons_succ,q_vq,q_joinL,up3_same,q_joH,es,q_oq,q_inL,up3_ne hne,hp,q_inH,q_bq,q_tyS]
  refine ⟨trivial,eo,pl_str _,pl_strs ws,?_⟩
  rw [ej]
  split
  ·
   rename_i hin
   have hin' : mkS (c :: r) ∈ ws:=(memI str_inj).mp hin
   have hm0 : m ≠ 0:=fun e => hm _ hin' (by rw [mkS_cps,e]; show some c = _; congr 1; omega)
   clear hin hnx
   rw [hcons]
   clear es ej eo hcr hcons
   walk_at "rd"
   rw [show (⟨#[c]⟩ : Str) = mkS [c] from rfl]
   simp only [hix]
   walk_at "rd"
   simp only [mkS_cps,ha,q_oq]
   walk_at "rd"
   refine ⟨trivial,by decide,al,m - 1,by omega,_,r,trivial,rfl,hr,?_,?_⟩
   ·
    intro x hx
    rcases List.mem_cons.mp hx with rfl | hx
    ·
     omega
    ·
     exact hl x (List.mem_cons_of_mem _ hx)
   ·
    intro w hw
    have e : (97 + ((((c - 97 : Nat) : Int) + 1) % 26).toNat - 97 + (m - 1)) % 26 = (c - 97 + m) % 26:=by omega
    rw [e]
    exact hm w hw
  ·
   rename_i hin
   exact hnx _ (by simp only [List.length_cons]; omega) nxt fun z => hin ((memI str_inj).mpr z)
abbrev N_names : List Str:=["_law_cell","_law_many","_law_letters","_law_alike","_law_size","_law_at_here","_law_number","_law_names_here","_law_k","_law_own","_law_long","_law_word","_law_j"]
theorem sc_names : FnScope N_names ["_law_cell","_law_many"] (defScope (top 19)):=sc_mk
theorem ok_names {f : Addr} {fd : FuncData} (g : G3 K mg "_law_names" (top 19) ["_law_cell","_law_many"] f fd) (B : Bl mg) : Cal P w K mg base 1 "_law_names" (top 19) ["_law_cell","_law_many"] spNs:=by
 refine ⟨f,fd,g,?_⟩
 refine fn3 g.fn sc_names (fun ts H Q h => ?_) (fun cdv A outer s H E ts H3 Q hr h => ?_)
 ·
  obtain ⟨n,m,rfl,_⟩:=h; rfl
 ·
  have hu30:=Room.u30 hr
  have hu31:=Room.u31 hr
  have hu1:=Room.u1 hr
  obtain ⟨n,m,rfl,m0,m8,k⟩:=h
  refine ⟨_,(ss3_cons (s3_set (i:=2) sc_names.nd c3_str)
    (ss3_cons (s3_set (i:=3) sc_names.nd (e3_cmp (o3_eq hu30) (e3_op o3_mod (v3 0) c3_int) c3_int))
    (ss3_cons (s3_set (i:=4) sc_names.nd (e3_op o3_add c3_int (e3_op o3_mod (e3_op o3_fdiv (v3 0) c3_int) c3_int)))
    (ss3_cons (s3_set (i:=5) sc_names.nd (e3_op o3_mod (e3_op o3_fdiv (v3 0) c3_int) (v3 4)))
    (ss3_cons (s3_set (i:=6) sc_names.nd (e3_op o3_fdiv (v3 0) c3_int))
    (ss3_cons (s3_set (i:=7) sc_names.nd (e3_lst a3_nil))
    (ss3_cons (s3_for PassesOwn.never rfl (i3_range1 rfl B.range_ (a3_cons (v3 1) a3_nil)) (g3_name (i:=8) sc_names.nd) (ss3_cons (s3_set (i:=9) sc_names.nd (v3 6))
     (ss3_cons (s3_set (i:=10) sc_names.nd (v3 4))
     (ss3_cons (s3_if (t3_not (t3_val (v3 3))) (ss3_cons (s3_set (i:=10) sc_names.nd (e3_op o3_add c3_int (e3_op o3_mod (v3 6) c3_int)))
      (ss3_one (s3_set (i:=9) sc_names.nd (e3_op o3_fdiv (v3 6) c3_int)))) ss3_nil)
     (ss3_cons (s3_set (i:=11) sc_names.nd (e3_lst a3_nil))
     (ss3_cons (s3_for PassesOwn.never rfl (i3_range1 rfl B.range_ (a3_cons (v3 10) a3_nil)) (g3_name (i:=12) sc_names.nd) (ss3_cons (s3_expr (e3_bm PySem.F.plainAttrs_list PySem.F.slot_list_append PySem.F.type_list_append m3_append (v3 11) (a3_cons (e3_ix ix3 (v3 2) (e3_op o3_mod (v3 9) c3_int)) a3_nil)))
      (ss3_one (s3_set (i:=9) sc_names.nd (e3_op o3_fdiv (v3 9) c3_int)))))
     (ss3_cons (s3_if (t3_val (v3 3)) (ss3_one (s3_asg (e3_ix ix3 (v3 2) (e3_op o3_mod (e3_op o3_add (e3_bm PySem.F.plainAttrs_str PySem.F.slot_str_index PySem.F.type_str_index m3_index (v3 2) (a3_cons (e3_ix ix3 (v3 11) (v3 5)) a3_nil)) (v3 8)) c3_int)) (g3_sub (v3 11) (v3 5) set3_list))) (ss3_one (s3_set (i:=6) sc_names.nd (v3 9))))
     (ss3_cons (s3_while PassesOwn.never (t3_cmp (o3_in hu31) (e3_bm PySem.F.plainAttrs_str PySem.F.slot_str_join PySem.F.type_str_join m3_join c3_str (a3_cons (v3 11) a3_nil)) (v3 7) rfl) (ss3_one (s3_asg (e3_ix ix3 (v3 2) (e3_op o3_mod (e3_op o3_add (e3_bm PySem.F.plainAttrs_str PySem.F.slot_str_index PySem.F.type_str_index m3_index (v3 2) (a3_cons (e3_ix ix3 (v3 11) c3_int) a3_nil)) c3_int) c3_int)) (g3_sub (v3 11) c3_int set3_list))))
     (ss3_one (s3_expr (e3_bm PySem.F.plainAttrs_list PySem.F.slot_list_append PySem.F.type_list_append m3_append (v3 7) (a3_cons (e3_bm PySem.F.plainAttrs_str PySem.F.slot_str_join PySem.F.type_str_join m3_join c3_str (a3_cons (v3 11) a3_nil)) a3_nil))))))))))))
    (ss3_one (s3_ret (v3 7)))))))))),?_⟩
  rw [show start3 N_names [T.int n,T.int m] = [some (T.int n),some (T.int m),none,none,none,none,none,none,none,none,none,none,none] from rfl]
  have hsz : sizeLine = 16777216:=rfl
  walk_at "rd"
  simp only [abc_eq]
  refine ⟨by decide,⟨by decide,by decide +kernel⟩,by decide,⟨by decide,by decide +kernel⟩,by omega,⟨by decide,by decide +kernel⟩,by omega,fun p hp => ?_⟩
  refine ⟨True.intro,by omega,by omega,?_⟩
  have z1 : 1 <= 1 + n / 2 % 8:=by omega
  have z8 : 1 + n / 2 % 8 <= 8:=by omega
  have a0:=Int.emod_nonneg (n / 16) (show (1 + n / 2 % 8) ≠ 0 by omega)
  have a1:=Int.emod_lt_of_pos (n / 16) (show (0 : Int) < 1 + n / 2 % 8 by omega)
  generalize n / 16 % (1 + n / 2 % 8) = at0' at a0 a1
  generalize 1 + n / 2 % 8 = size at z1 z8 a1
  generalize n / 128 = nb
  generalize decide (n % 2 = 0) = alike
  have hrl : (rng3 0 m.toNat).length = m.toNat:=by simp [rng3]
  have hri : ∀ t ∈ rng3 0 m.toNat,∃ j : Int,t = .int j:=by
   intro t ht
   unfold rng3 at ht
   obtain ⟨i,_,rfl⟩:=List.mem_map.mp ht
   exact ⟨_,rfl⟩
  generalize rng3 0 m.toNat = ts0 at hrl hri
  refine iter_go (fun r σ H' => ∃ (ws : List Str) (nb : Int) (v8 v9 v10 v11 v12 : Option T),σ = [some (.int n),some (.int m),some (.str (mkS abcL)),some (.bl alike),some (.int size),some (.int at0'),some (.int nb),some (.ref p),v8,v9,v10,v11,v12] /\ ws.length + r.length = m.toNat /\ Nms ws /\ H' p = some (.lst (ws.map T.str)) /\ Sub3 H3 H' /\ ∀ t ∈ r,∃ j : Int,t = .int j)
   ⟨[],nb,none,none,none,none,none,rfl,by simpa using hrl,.nil,up3_same,Sub3.new hp,hri⟩ ?_ ?_
  ·
   rintro σ H' ⟨ws,nb,v8,v9,v10,v11,v12,rfl,hl,hn,hH,hS,_⟩
   simp only [List.length_nil,Nat.add_zero] at hl
   refine ⟨trivial,?_⟩
   walk_at "rd"
   refine Fin3.of (fun b o hb => ?_) (k p ws hp hn (by omega))
   by_cases e : b = p
   ·
    subst e; rw [up3_same] at hb; rw [hH]; exact hb
   ·
    rw [up3_ne e] at hb; exact hS b o hb
  ·
   rintro x r σ H' N ⟨ws,nb,v8,v9,v10,v11,v12,rfl,hl,hn,hH,hS,hri⟩ hN
   simp only [List.length_cons] at hl
   obtain ⟨kk,rfl⟩:=hri _ List.mem_cons_self
   have hw7 : ws.length <= 7:=by omega
   refine ⟨trivial,?_⟩
   have al : (mkS abcL).length <= sizeLine:=by rw [mkS_len]; decide
   -- behind the word
   have fin : ∀ (nb' : Int) (v9 v10 v12 : Option T) (wd : Addr) (HH : Hp3) (l : List Nat),HH p = some (.lst (ws.map T.str)) -> p ≠ wd -> HH wd = some (.lst (l.map sgT)) -> H3 wd = none -> Sub3 H3 HH -> 1 <= l.length -> l.length <= 8 -> (∀ c ∈ l,97 <= c /\ c <= 122) ->
     tWhile3 (tTest3 (tOp3 (r3In false) (tBM3 "str" r3Join (tC3 (T.str (Str.ofString ""))) (tCons3 (tVar3 11) tNil3)) (tVar3 7)))
      (tAsg3 (tOp3 r3Ix (tVar3 2) (tOp3 (rI3 (fun x j => 0 < j) fun i j => T.int (i % j)) (tOp3 rAdd3 (tBM3 "str" r3Index (tVar3 2) (tCons3 (tOp3 r3Ix (tVar3 11) (tC3 (T.int 0))) tNil3)) (tC3 (T.int 1))) (tC3 (T.int 26)))) (gSub3 (tVar3 11) (tC3 (T.int 0)) r3SetL))
      { nx:=tDrop3 (tBM3 "list" r3App (tVar3 7) (tCons3 (tBM3 "str" r3Join (tC3 (T.str (Str.ofString ""))) (tCons3 (tVar3 11) tNil3)) tNil3)) { nx:=N,rt:=Fin3 Q,bk:=tRet3 (tVar3 7) { nx:=fun x H' => Fin3 Q T.non H',rt:=Fin3 Q },ct:=N },rt:=Fin3 Q,bk:=tRet3 (tVar3 7) { nx:=fun x H' => Fin3 Q T.non H',rt:=Fin3 Q },ct:=N }
      [some (.int n),some (.int m),some (.str (mkS abcL)),some (.bl alike),some (.int size),some (.int at0'),some (.int nb'),some (.ref p),some (.int kk),v9,v10,some (.ref wd),v12] HH:=by
    intro nb' v9 v10 v12 wd HH l hpH hpw hwd hw0 hSH l1 l8 hlet
    refine ns_while hpH hpw hw7 l hwd l1 l8 hlet fun l' g8 g1 g2 => ?_
    have es:=strs_sg l'
    have ej:=jn_sg l'
    have eo : jOk "" (l'.map sg):=ok_sg (by omega)
    have hH2 : up3 HH wd (.lst (l'.map sgT)) p = some (.lst (ws.map T.str)):=by rw [up3_ne hpw]; exact hpH
    have hS2 : Sub3 H3 (up3 HH wd (.lst (l'.map sgT))):=sub_up hw0 hSH
    simp only [tDrop3,tBM3,tC3,tCons3,tNil3,q_var,List.getElem?_cons_zero,List.getElem?_cons_succ,q_vq,q_joinL,up3_same,q_joH,es,q_oq,q_tyS,q_tyL,hH2,q_tyH,q_app,q_apH,ej,List.length_map]
    refine ⟨⟨trivial,trivial⟩,trivial,eo,by omega,?_⟩
    refine hN _ _ ⟨ws ++ [mkS l'],_,_,_,_,_,_,rfl,by simp only [List.length_append,List.length_singleton]; omega,hn.snoc g1 g2,?_,sub_up hp hS2,fun t ht => hri t (List.mem_cons_of_mem _ ht)⟩
    rw [up3_same,List.map_append]; rfl
   cases alike with
   | true =>
    walk_at "rd"
    refine ⟨by omega,fun wd hwd => ?_⟩
    have hpw : p ≠ wd:=ne3n hH hwd
    have hw0 : H3 wd = none:=by cases e : H3 wd with
     | none => rfl
     | some o => rw [hS wd o e] at hwd; cases hwd
    refine ⟨True.intro,by omega,by omega,ns_for z1 z8 up3_same fun l own' x12' hl2 hlet => ?_⟩
    obtain ⟨cc,hcc,ec⟩:=at_ex l at0' a0 (by omega)
    have e1 : atI (l.map sgT) at0' = some (T.str ⟨#[cc]⟩):=by rw [at_map,ec]; rfl
    obtain ⟨ja,rfl⟩:=Int.eq_ofNat_of_zero_le a0
    have e2 : ixN l.length (ja : Int) = some ja:=ixN_nat (by omega)
    obtain ⟨c0,c1⟩:=hlet cc hcc
    have hix:=abc_ix cc c0 c1
    have ha:=abc_at ((((cc - 97 : Nat) : Int) + kk) % 26) (Int.emod_nonneg _ (by decide)) (Int.emod_lt_of_pos _ (by decide))
    have hb:=Int.emod_lt_of_pos ((((cc - 97 : Nat) : Int) + kk)) (show (0 : Int) < 26 by decide)
    have hH2 : up3 H' wd (.lst ((l.set ja (97 + ((((cc - 97 : Nat) : Int) + kk) % 26).toNat)).map sgT)) p = some (.lst (ws.map T.str)):=by rw [up3_ne hpw]; exact hH
    have fin':=fin nb (some (.int own')) (some (.int size)) x12' wd (up3 H' wd (.lst ((l.set ja (97 + ((((cc - 97 : Nat) : Int) + kk) % 26).toNat)).map sgT))) _ hH2 hpw up3_same hw0 (sub_up hw0 hS) (by rw [List.length_set]; omega) (by rw [List.length_set]; omega) (fun y hy => by
     rcases List.mem_or_eq_of_mem_set hy with hy | rfl
     ·
      exact hlet y hy
     ·
      omega)
    clear fin hN hri k
    walk_at "rd"
    rw [show (⟨#[cc]⟩ : Str) = mkS [cc] from rfl]
    simp only [hix]
    walk_at "rd"
    simp only [mkS_cps,ha,q_oq]
    walk_at "rd"
    refine ⟨True.intro,by decide,al,?_⟩
    rw [List.map_set] at fin'
    exact fin'
   | false =>
    walk_at "rd"
    refine ⟨by decide,⟨by decide,by decide +kernel⟩,by omega,fun wd hwd => ?_⟩
    have hpw : p ≠ wd:=ne3n hH hwd
    have hw0 : H3 wd = none:=by cases e : H3 wd with
     | none => rfl
     | some o => rw [hS wd o e] at hwd; cases hwd
    refine ⟨True.intro,by omega,by omega,ns_for (by omega) (by omega) up3_same fun l own' x12' hl2 hlet => ?_⟩
    have hH2 : up3 H' wd (.lst (l.map sgT)) p = some (.lst (ws.map T.str)):=by rw [up3_ne hpw]; exact hH
    have fin':=fin own' (some (.int own')) (some (.int (1 + nb % 8))) x12' wd (up3 H' wd (.lst (l.map sgT))) l hH2 hpw up3_same hw0 (sub_up hw0 hS) (by omega) (by omega) hlet
    clear fin hN hri k
    walk_at "rd"
    try exact fin'
structure Box (p : Prop) : Prop where
 out : p
def spTs : Sp3:=fun ts H Q => ∃ (c a b : Addr) (ws pool : List Str) (free : Bool),ts = [.ref c,.ref a,.ref b,.bl free] /\ Cl H c /\ a ≠ c /\ b ≠ c /\ H a = some (.lst (ws.map T.str)) /\ H b = some (.lst (pool.map T.str)) /\ Nms ws /\ Nms pool /\ 1 <= pool.length /\ pool.length <= 8 /\ ws.length <= 8 /\
 ∀ (tk : List (Str × Int × List Str)) (H' : Hp3),tk.map (·.1) = ws -> (∀ t ∈ tk,tkOk t) -> Drw c H H' -> Q (.tup (tk.map tkT)) H'
theorem log_64 {j : Int} (h0 : 0 < j) (h : j < 2 ^ 64) : CDiv3 i j:=⟨h0,Nat.lt_trans ((Nat.log2_lt (by omega)).mpr (show j.natAbs < 2 ^ 64 by omega)) (by decide)⟩
theorem ts_for {D : Ends3} {x0 x1 x3 x4 x5 x6 x8 x10 x11 : Option T} {cell : Int} {b kd : Addr} {pool : List Str} {ts0 : List T} {H : Hp3} (hb : H b = some (.lst (pool.map T.str))) (nbk : b ≠ kd) (hp : Nms pool) (p1 : 1 <= pool.length) (p8 : pool.length <= 8) (hk : H kd = some (.lst [])) (h4 : ts0.length <= 4) (hts : ∀ t ∈ ts0,∃ j : Int,t = .int j /\ 0 <= j /\ j < 4)
  (hn : ∀ (ks : List Str) (x10 x11 : Option T),ks.length <= 4 -> Nms ks -> D.nx [x0,x1,some (.ref b),x3,x4,x5,x6,some (.int cell),x8,some (.ref kd),x10,x11] (up3 H kd (.lst (ks.map T.str)))) :
  iter3 (gName3 10) (tSeq3 (tAsg3 (tOp3 r3Ix (tVar3 2) (tOp3 (rI3 (fun x j => 0 < j) fun i j => T.int (i % j)) (tOp3 (rI3 CDiv3 fun i j => T.int (i / j)) (tVar3 7) (tOp3 (rI3 CPow fun i j => T.int (i * 2 ^ j.toNat)) (tC3 (T.int 324)) (tOp3 (rI3 CMul fun i j => T.int (i * j)) (tC3 (T.int 2)) (tVar3 10)))) (tCB3 r3Len (tCons3 (tVar3 2) tNil3)))) (gName3 11)) (tIfS3 (tTest3 (tOp3 (r3In true) (tVar3 11) (tVar3 9))) (tDrop3 (tBM3 "list" r3App (tVar3 9) (tCons3 (tVar3 11) tNil3))) tNext3)) D still0 ts0 [x0,x1,some (.ref b),x3,x4,x5,x6,some (.int cell),x8,some (.ref kd),x10,x11] H:=by
 have hsz : sizeLine = 16777216:=rfl
 refine iter_go (fun r σ H' => ∃ (ks : List Str) (v10 v11 : Option T),σ = [x0,x1,some (.ref b),x3,x4,x5,x6,some (.int cell),x8,some (.ref kd),v10,v11] /\ ks.length + r.length <= 4 /\ Nms ks /\ H' = up3 H kd (.lst (ks.map T.str)) /\ ∀ t ∈ r,∃ j : Int,t = .int j /\ 0 <= j /\ j < 4)
  ⟨[],x10,x11,rfl,by simpa using h4,.nil,(up3_id hk).symm,hts⟩ ?_ ?_
 ·
  rintro σ H' ⟨ks,v10,v11,rfl,hl,hks,rfl,_⟩
  exact ⟨trivial,hn ks v10 v11 (by simpa using hl) hks⟩
 ·
  rintro x r σ H' N ⟨ks,v10,v11,rfl,hl,hks,rfl,hr⟩ hN
  simp only [List.length_cons] at hl
  obtain ⟨j,rfl,j0,j4⟩:=hr _ List.mem_cons_self
  refine ⟨trivial,?_⟩
  have hpos : (0 : Int) < (pool.length : Int):=by omega
  have hm : 0 < (2 : Int) ^ (2 * j).toNat /\ (2 : Int) ^ (2 * j).toNat <= 64:=by
   have : j = 0 \/ j = 1 \/ j = 2 \/ j = 3:=by omega
   rcases this with rfl | rfl | rfl | rfl <;> decide
  have cd : CDiv3 cell (324 * 2 ^ (2 * j).toNat):=log_64 (i:=cell) (by omega) (by omega)
  obtain ⟨z,hz,ez⟩:=at_ex pool (cell / (324 * 2 ^ (2 * j).toNat) % (pool.length : Int)) (Int.emod_nonneg _ (by omega)) (Int.emod_lt_of_pos _ hpos)
  have ez' : atI (pool.map T.str) (cell / (324 * 2 ^ (2 * j).toNat) % (pool.length : Int)) = some (.str z):=by rw [at_map,ez]; rfl
  have cp : CPow 324 (2 * j):=⟨by omega,by omega,by decide⟩
  have cm : CMul 2 j:=.inl ⟨by decide,by decide⟩
  have i1:=pl_str z
  have i2:=pl_strs ks
  have nx1 : z ∉ ks -> ∀ v10 v11,N [x0,x1,some (.ref b),x3,x4,x5,x6,some (.int cell),x8,some (.ref kd),v10,v11] (up3 H kd (.lst (ks.map T.str ++ [T.str z]))):=fun hzk v10 v11 => hN _ _ ⟨ks ++ [z],_,_,rfl,by simp only [List.length_append,List.length_singleton]; omega,hks.snoc (hp.nm z hz) hzk,by simp,fun t ht => hr t (List.mem_cons_of_mem _ ht)⟩
  have nx2 : ∀ v10 v11,N [x0,x1,some (.ref b),x3,x4,x5,x6,some (.int cell),x8,some (.ref kd),v10,v11] (up3 H kd (.lst (ks.map T.str))):=fun v10 v11 => hN _ _ ⟨ks,_,_,rfl,by omega,hks,rfl,fun t ht => hr t (List.mem_cons_of_mem _ ht)⟩
  clear hN hn hr hts ez hk
  walk_at "rd"
  refine ⟨by first | trivial | exact cm,by first | trivial | exact cp,by first | trivial | exact cd,by first | trivial | exact hpos,?_⟩
  try simp only [true_and]
  split
  ·
   rename_i hin
   have hin':=(memN str_inj).mp hin
   first | exact ⟨by omega,nx1 hin' _ _⟩ | exact ⟨⟨trivial,trivial⟩,by omega,nx1 hin' _ _⟩
  ·
   first | trivial | exact nx2 _ _
abbrev N_tasks : List Str:=["_law_cells","_law_names_here","_law_pool","_law_free","_law_base","_law_tasks_here","_law_name","_law_cell","_law_length","_law_kinds","_law_k","_law_kind"]
theorem sc_tasks : FnScope N_tasks ["_law_cells","_law_names_here","_law_pool","_law_free"] (defScope (top 23)):=sc_mk
theorem ok_tasks {f : Addr} {fd : FuncData} (g : G3 K mg "_law_tasks" (top 23) ["_law_cells","_law_names_here","_law_pool","_law_free"] f fd) (B : Bl mg) (F_next : Cal P w K mg base 2 "_law_next" (top 21) ["_law_cells"] spNx) : Cal P w K mg base 3 "_law_tasks" (top 23) ["_law_cells","_law_names_here","_law_pool","_law_free"] spTs:=by
 refine ⟨f,fd,g,?_⟩
 refine fn3 g.fn sc_tasks (fun ts H Q h => ?_) (fun cdv A outer s H E ts H3 Q hr h => ?_)
 ·
  obtain ⟨c,a,b,ws,pool,free,rfl,_⟩:=h; rfl
 ·
  have hu30:=Room.u30 hr
  have hu31:=Room.u31 hr
  have hu1:=Room.u1 hr
  obtain ⟨c,a,b,ws,pool,free,rfl,D,nac,nbc,ha,hb,hws,hpool,p1,p8,w8,k⟩:=h
  refine ⟨_,(ss3_cons (s3_set (i:=4) sc_tasks.nd (e3_op o3_mod (e3_cl F_next hr rfl (a3_cons (v3 0) a3_nil)) (e3_op o3_pow c3_int c3_int)))
    (ss3_cons (s3_if (t3_cmp (o3_eq hu30) (e3_op o3_mod (v3 4) c3_int) c3_int) (ss3_one (s3_set (i:=4) sc_tasks.nd (e3_op o3_mod (e3_op o3_fdiv (v3 4) c3_int) c3_int))) ss3_nil)
    (ss3_cons (s3_set (i:=5) sc_tasks.nd (e3_lst a3_nil))
    (ss3_cons (s3_for PassesOwn.never rfl (i3_list (v3 1)) (g3_name (i:=6) sc_tasks.nd) (ss3_cons (s3_set (i:=7) sc_tasks.nd (e3_cl F_next hr rfl (a3_cons (v3 0) a3_nil)))
     (ss3_cons (s3_set (i:=8) sc_tasks.nd (e3_op o3_add (e3_op o3_add (e3_op o3_mul (v3 4) (e3_op o3_add c3_int (e3_op o3_mod (v3 7) c3_int))) c3_int) (e3_op o3_mod (e3_op o3_fdiv (v3 7) c3_int) c3_int)))
     (ss3_cons (s3_if (t3_val (v3 3)) (ss3_cons (s3_set (i:=8) sc_tasks.nd (e3_op o3_add c3_int (e3_op o3_mod (v3 7) (e3_op o3_sub (e3_op o3_pow c3_int c3_int) c3_int))))
      (ss3_one (s3_set (i:=7) sc_tasks.nd (e3_cl F_next hr rfl (a3_cons (v3 0) a3_nil))))) ss3_nil)
     (ss3_cons (s3_set (i:=9) sc_tasks.nd (e3_lst a3_nil))
     (ss3_cons (s3_for PassesOwn.never rfl (i3_range1 rfl B.range_ (a3_cons (e3_ix ix3 (e3_lst (a3_cons (e3_op o3_mul (e3_op o3_fdiv (e3_op o3_mod (e3_op o3_fdiv (v3 7) c3_int) c3_int) c3_int) (e3_op o3_mod (e3_op o3_fdiv (v3 7) c3_int) c3_int)) (a3_cons (e3_op o3_mod (e3_op o3_fdiv (v3 7) c3_int) c3_int) a3_nil))) (e3_callTy c3_int' rfl B.int_ bt_int (a3_cons (v3 3) a3_nil))) a3_nil)) (g3_name (i:=10) sc_tasks.nd) (ss3_cons (s3_set (i:=11) sc_tasks.nd (e3_ix ix3 (v3 2) (e3_op o3_mod (e3_op o3_fdiv (v3 7) (e3_op o3_shl c3_int (e3_op o3_mul c3_int (v3 10)))) (e3_callB c3_len rfl B.len_ bt_len (a3_cons (v3 2) a3_nil)))))
      (ss3_one (s3_if (t3_cmp (o3_notin hu31) (v3 11) (v3 9) rfl) (ss3_one (s3_expr (e3_bm PySem.F.plainAttrs_list PySem.F.slot_list_append PySem.F.type_list_append m3_append (v3 9) (a3_cons (v3 11) a3_nil)))) ss3_nil))))
     (ss3_one (s3_expr (e3_bm PySem.F.plainAttrs_list PySem.F.slot_list_append PySem.F.type_list_append m3_append (v3 5) (a3_cons (e3_tup (a3_cons (v3 6) (a3_cons (v3 8) (a3_cons (e3_callTy c3_tuple rfl B.tuple_ bt_tuple (a3_cons (v3 9) a3_nil)) a3_nil)))) a3_nil))))))))))
    (ss3_one (s3_ret (e3_callTy c3_tuple rfl B.tuple_ bt_tuple (a3_cons (v3 5) a3_nil)))))))),?_⟩
  rw [show start3 N_tasks [T.ref c,T.ref a,T.ref b,T.bl free] = [some (T.ref c),some (T.ref a),some (T.ref b),some (T.bl free),none,none,none,none,none,none,none,none] from rfl]
  have hsz : sizeLine = 16777216:=rfl
  refine seq_cut fun R0 hR0 => ?_
  walk_at "rd"
  refine ⟨c,rfl,D,fun n1 H1 hD1 => ?_⟩
  walk_at "rd"
  refine ⟨⟨by decide,by decide,by decide⟩,?_⟩
  have big : (10 : Int) ^ Int.toNat 59 = 10 ^ 59:=rfl
  rw [big]
  clear big
  refine ⟨by decide +kernel,?_⟩
  have h1a : H1 a = some (.lst (ws.map T.str)):=by rw [hD1.off a nac]; exact ha
  have h1b : H1 b = some (.lst (pool.map T.str)):=by rw [hD1.off b nbc]; exact hb
  have b0 : 0 <= n1 % 10 ^ 59:=Int.emod_nonneg _ (by decide +kernel)
  have b1 : n1 % 10 ^ 59 < 10 ^ 59:=Int.emod_lt_of_pos _ (by decide +kernel)
  generalize n1 % 10 ^ 59 = base0 at b0 b1
  walk_at "nx"
  refine seq_cut fun R1 hR1 => ?_
  have key : ∀ base : Int,0 <= base -> base < 10 ^ 59 -> R1 { nx:=fun x H' => Fin3 Q T.non H',rt:=Fin3 Q } [some (.ref c),some (.ref a),some (.ref b),some (.bl free),some (.int base),none,none,none,none,none,none,none] H1:=by
   clear b0 b1 base0
   intro base b0 b1
   walk_at "nx"
   walk_at "rd"
   refine ⟨by omega,fun p hp => ?_⟩
   have nap : a ≠ p:=ne3n h1a hp
   have nbp : b ≠ p:=ne3n h1b hp
   have npc : p ≠ c:=hD1.cl.ne hp
   have hp0 : H3 p = none:=by rw [<- hD1.off p npc]; exact hp
   rw [up3_ne nap,h1a,q_liO]
   refine iter_go (fun r σ H' => ∃ (A B : List Str) (tk : List (Str × Int × List Str)) (v6 v7 v8 v9 v10 v11 : Option T),ws = A ++ B /\ r = B.map T.str /\ σ = [some (.ref c),some (.ref a),some (.ref b),some (.bl free),some (.int base),some (.ref p),v6,v7,v8,v9,v10,v11] /\ tk.map (·.1) = A /\ (∀ t ∈ tk,tkOk t) /\ H' p = some (.lst (tk.map tkT)) /\ Cl H' c /\ H' a = some (.lst (ws.map T.str)) /\ H' b = some (.lst (pool.map T.str)) /\ Kep c H3 H')
    ⟨[],ws,[],none,none,none,none,none,none,rfl,rfl,rfl,rfl,(fun _ h => nomatch h),up3_same,hD1.cl.new npc,by rw [up3_ne nap]; exact h1a,by rw [up3_ne nbp]; exact h1b,(Kep.refl.drw hD1).new hp⟩ ?_ ?_
   ·
    rintro σ H' ⟨A,B,tk,v6,v7,v8,v9,v10,v11,e1,e2,rfl,htA,htk,hH,hC,hHa,hHb,hK⟩
    have hB : B = []:=List.map_eq_nil_iff.mp e2.symm
    subst hB
    rw [List.append_nil] at e1
    refine ⟨.inl hHa,?_⟩
    clear hHa hHb e2
    walk_at "rd"
    exact fin_drw hC hK fun H'' hD => k tk H'' (htA.trans e1.symm) htk hD
   ·
    rintro x r σ H' N ⟨A,B,tk,v6,v7,v8,v9,v10,v11,e1,e2,rfl,htA,htk,hH,hC,hHa,hHb,hK⟩ hN
    cases B with
    | nil => cases e2
    | cons y B =>
     rw [List.map_cons,List.cons.injEq] at e2
     obtain ⟨rfl,rfl⟩:=e2
     have hlA : tk.length + 1 <= 8:=by
      have h1:=congrArg List.length e1
      have h2:=congrArg List.length htA
      simp only [List.length_append,List.length_cons,List.length_map] at h1 h2
      omega
     have hyn : isNm y:=hws.nm y (by rw [e1]; simp)
     -- behind the kinds
     have fin : ∀ (len cell : Int) (ks : List Str) (v10 v11 : Option T) (kd : Addr) (HH : Hp3),1 <= len -> len < 10 ^ 60 -> ks.length <= 4 -> Nms ks -> p ≠ kd -> HH p = some (.lst (tk.map tkT)) -> HH kd = some (.lst (ks.map T.str)) -> Cl HH c -> HH a = some (.lst (ws.map T.str)) -> HH b = some (.lst (pool.map T.str)) -> Kep c H3 HH ->
       tDrop3 (tBM3 "list" r3App (tVar3 5) (tCons3 (tTup3 (tCons3 (tVar3 6) (tCons3 (tVar3 8) (tCons3 (tCB3 r3Tuple (tCons3 (tVar3 9) tNil3)) tNil3)))) tNil3)) { nx:=N,rt:=Fin3 Q,bk:=tRet3 (tCB3 r3Tuple (tCons3 (tVar3 5) tNil3)) { nx:=fun x H' => Fin3 Q T.non H',rt:=Fin3 Q },ct:=N }
        [some (.ref c),some (.ref a),some (.ref b),some (.bl free),some (.int base),some (.ref p),some (.str y),some (.int cell),some (.int len),some (.ref kd),v10,v11] HH:=by
      intro len cell ks v10 v11 kd HH l1 l2 k4 hks npk g1 g2 g3 g4 g5 g6
      have nx : N [some (.ref c),some (.ref a),some (.ref b),some (.bl free),some (.int base),some (.ref p),some (.str y),some (.int cell),some (.int len),some (.ref kd),v10,v11] (up3 HH p (.lst (tk.map tkT ++ [tkT (y,len,ks)]))):=hN _ _ ⟨A ++ [y],B,tk ++ [(y,len,ks)],_,_,_,_,_,_,by rw [e1]; simp,rfl,rfl,by rw [List.map_append,htA]; rfl,fun t ht => by
       rcases List.mem_append.mp ht with ht | ht
       ·
        exact htk t ht
       ·
        rw [List.mem_singleton.mp ht]; exact ⟨hyn,l1,l2,hks,k4⟩,by rw [up3_same,List.map_append]; rfl,g3.new npc,by rw [up3_ne nap]; exact g4,by rw [up3_ne nbp]; exact g5,fun b o hb h1 => by
       rw [up3_ne (fun e => by rw [e,hp0] at hb; cases hb)]; exact g6 b o hb h1⟩
      simp only [tDrop3,tBM3,tCons3,tNil3,tTup3,tCB3,q_var,List.getElem?_cons_zero,List.getElem?_cons_succ,q_vq,q_tupL,g2,q_tpH,q_tyL,g1,q_tyH,q_app,q_apH,List.length_map]
      exact ⟨⟨trivial,trivial⟩,by show 3 <= sizeLine; decide,by omega,nx⟩
     refine ⟨.inl hHa,?_⟩
     simp only [tSeq3,tAsg3,tCall3,tCons3,tNil3,q_var,List.getElem?_cons_zero,List.getElem?_cons_succ,q_vq,gName3,List.set_cons_zero,List.set_cons_succ]
     refine ⟨c,rfl,hC,fun n2 H2 hD2 => ?_⟩
     have hK2:=hK.drw hD2
     have h2p : H2 p = some (.lst (tk.map tkT)):=by rw [hD2.off p npc]; exact hH
     have h2a : H2 a = some (.lst (ws.map T.str)):=by rw [hD2.off a nac]; exact hHa
     have h2b : H2 b = some (.lst (pool.map T.str)):=by rw [hD2.off b nbc]; exact hHb
     replace fin:=Box.mk fin
     replace hN:=Box.mk hN
     clear e1 htA htk hH hHa hHb hK hC k
     have l0 : 0 <= base * (1 + n2 % 9):=Int.mul_nonneg b0 (by omega)
     have l1 : base * (1 + n2 % 9) <= base * 9:=Int.mul_le_mul_of_nonneg_left (by omega) b0
     have t59 : (10 : Int) ^ 60 = 10 * 10 ^ 59:=by decide +kernel
     cases free with
     | true =>
      dsimp only
      walk_at "rd"
      refine ⟨by decide,.inr ⟨by omega,by omega⟩,⟨by decide,by decide +kernel⟩,by decide,⟨by decide,by decide,by decide⟩,by decide +kernel,c,rfl,hD2.cl,fun n3 H4 hD3 => ?_⟩
      have hK4:=hK2.drw hD3
      have D4:=hD3.cl
      have h4p : H4 p = some (.lst (tk.map tkT)):=by rw [hD3.off p npc]; exact h2p
      have h4a : H4 a = some (.lst (ws.map T.str)):=by rw [hD3.off a nac]; exact h2a
      have h4b : H4 b = some (.lst (pool.map T.str)):=by rw [hD3.off b nbc]; exact h2b
      clear h2p h2a h2b hD2 hD3
      dsimp only
      refine ⟨by omega,fun kd hkd => ?_⟩
      have npk : p ≠ kd:=ne3n h4p hkd
      have nak : a ≠ kd:=ne3n h4a hkd
      have nbk : b ≠ kd:=ne3n h4b hkd
      have nkc : kd ≠ c:=D4.ne hkd
      have m0 : 0 <= n2 % (10 ^ 60 - 1):=Int.emod_nonneg _ (by decide +kernel)
      have m1 : n2 % (10 ^ 60 - 1) < 10 ^ 60 - 1:=Int.emod_lt_of_pos _ (by decide +kernel)
      walk_at "rd"
      refine ⟨⟨by decide,by decide +kernel⟩,by decide,⟨by decide,by decide +kernel⟩,⟨by decide,by decide +kernel⟩,by decide,.inl ⟨by omega,by omega⟩,⟨by decide,by decide +kernel⟩,by decide,by omega,fun q hq => ?_⟩
      obtain ⟨nqk,hq0⟩:=up3_none hq
      have nkq : kd ≠ q:=Ne.symm nqk
      have npq : p ≠ q:=ne3n h4p hq0
      have naq : a ≠ q:=ne3n h4a hq0
      have nbq : b ≠ q:=ne3n h4b hq0
      have nqc : q ≠ c:=D4.ne hq0
      have kd0 : H3 kd = none:=by
       cases e : H3 kd with
       | none => rfl
       | some o => rw [hK4 kd o e nkc] at hkd; cases hkd
      try simp only [at0,at1,q_oq,q_rg1]
      try refine ⟨True.intro,?_⟩
      try rw [q_rg1]
      refine ⟨by omega,by omega,ts_for (by rw [up3_ne nbq,up3_ne nbk]; exact h4b) nbk hpool p1 p8 (by rw [up3_ne nkq,up3_same]) (by simp only [rng3,List.length_map,List.length_range]; omega) (fun t ht => ?_) fun ks x10 x11 k4 hks => ?_⟩
      ·
       unfold rng3 at ht
       obtain ⟨i,hi,rfl⟩:=List.mem_map.mp ht
       rw [List.mem_range] at hi
       exact ⟨_,rfl,by omega,by omega⟩
      ·
       refine fin.out _ _ ks x10 x11 kd _ (show 1 <= 1 + n2 % (10 ^ 60 - 1) by omega) (show 1 + n2 % (10 ^ 60 - 1) < 10 ^ 60 by omega) k4 hks npk ?_ up3_same ?_ ?_ ?_ ((((hK4.new hkd).new hq).at kd0))
       ·
        rw [up3_ne npk,up3_ne npq,up3_ne npk]; exact h4p
       ·
        exact ((D4.new nkc).new nqc).new nkc
       ·
        rw [up3_ne nak,up3_ne naq,up3_ne nak]; exact h4a
       ·
        rw [up3_ne nbk,up3_ne nbq,up3_ne nbk]; exact h4b
     | false =>
      dsimp only
      walk_at "rd"
      refine ⟨by decide,.inr ⟨by omega,by omega⟩,⟨by decide,by decide +kernel⟩,by decide,by omega,fun kd hkd => ?_⟩
      have hK4:=hK2
      have D4:=hD2.cl
      have h4p:=h2p
      have h4a:=h2a
      have h4b:=h2b
      clear h2p h2a h2b
      have npk : p ≠ kd:=ne3n h4p hkd
      have nak : a ≠ kd:=ne3n h4a hkd
      have nbk : b ≠ kd:=ne3n h4b hkd
      have nkc : kd ≠ c:=D4.ne hkd
      walk_at "rd"
      refine ⟨⟨by decide,by decide +kernel⟩,by decide,⟨by decide,by decide +kernel⟩,⟨by decide,by decide +kernel⟩,by decide,.inl ⟨by omega,by omega⟩,⟨by decide,by decide +kernel⟩,by decide,by omega,fun q hq => ?_⟩
      obtain ⟨nqk,hq0⟩:=up3_none hq
      have nkq : kd ≠ q:=Ne.symm nqk
      have npq : p ≠ q:=ne3n h4p hq0
      have naq : a ≠ q:=ne3n h4a hq0
      have nbq : b ≠ q:=ne3n h4b hq0
      have nqc : q ≠ c:=D4.ne hq0
      have kd0 : H3 kd = none:=by
       cases e : H3 kd with
       | none => rfl
       | some o => rw [hK4 kd o e nkc] at hkd; cases hkd
      have pr : n2 / 27 % 3 / 2 = 0 \/ n2 / 27 % 3 / 2 = 1:=by omega
      have pr2 : 0 <= n2 / 27 % 3 / 2 * (n2 / 81 % 4) /\ n2 / 27 % 3 / 2 * (n2 / 81 % 4) < 4:=by rcases pr with e | e <;> rw [e] <;> omega
      generalize n2 / 27 % 3 / 2 * (n2 / 81 % 4) = cnt at pr2 ⊢
      try simp only [at0,at1,q_oq,q_rg1]
      try refine ⟨True.intro,?_⟩
      try rw [q_rg1]
      refine ⟨by omega,by omega,ts_for (by rw [up3_ne nbq,up3_ne nbk]; exact h4b) nbk hpool p1 p8 (by rw [up3_ne nkq,up3_same]) (by simp only [rng3,List.length_map,List.length_range]; omega) (fun t ht => ?_) fun ks x10 x11 k4 hks => ?_⟩
      ·
       unfold rng3 at ht
       obtain ⟨i,hi,rfl⟩:=List.mem_map.mp ht
       rw [List.mem_range] at hi
       exact ⟨_,rfl,by omega,by omega⟩
      ·
       refine fin.out _ _ ks x10 x11 kd _ (by omega) (by omega) k4 hks npk ?_ up3_same ?_ ?_ ?_ ((((hK4.new hkd).new hq).at kd0))
       ·
        rw [up3_ne npk,up3_ne npq,up3_ne npk]; exact h4p
       ·
        exact ((D4.new nkc).new nqc).new nkc
       ·
        rw [up3_ne nak,up3_ne naq,up3_ne nak]; exact h4a
       ·
        rw [up3_ne nbk,up3_ne nbq,up3_ne nbk]; exact h4b
  have key':=Box.mk key
  clear key k hR1
  walk_at "rd"
  refine ⟨by decide,?_⟩
  split
  ·
   refine ⟨⟨by decide,by decide +kernel⟩,by decide,?_⟩
   exact key'.out _ (Int.emod_nonneg _ (by decide)) (Int.lt_trans (Int.emod_lt_of_pos _ (by decide)) (by decide +kernel))
  ·
   exact key'.out _ b0 b1
end
end M
namespace L3
open PySem PySem.Spec PyProof.Rows L2
theorem rng0 (n : Nat) : rng3 0 n = (List.range n).map fun (i : Nat) => T.int (i : Int):=by
 unfold rng3
 refine List.map_congr_left fun i _ => ?_
 rw [Int.zero_add]
end L3
namespace M
open PySem PySem.Spec PyProof.Rows L2 L3
section
variable {d c R lf l0 l1 l2 fd th q : Addr} {rows : List T} {ts : List (Str × Int × List Str)} {os : List (Str × Str)} {ps : List (Str × Str × Str)} {L : List Rw} {H H' : Hp3} {o : O3}
end
section
variable {W : Wk} {ts : List (Str × Int × List Str)} {os : List (Str × Str)} {ps : List (Str × Str × Str)} {L : List Rw}
end
end M
namespace M
open PySem PySem.Spec PyProof.Rows L2 L3
local macro_rules | `(tactic| walk_at "cp") => `(tactic| try dsimp only [cap3,List.replicate,List.map_cons,List.map_nil,List.cons_append,List.nil_append,List.getElem?_cons_zero,List.getElem?_cons_succ,Option.getD_some])
local macro_rules | `(tactic| walk_at "nx") => `(tactic| (obtain ⟨e⟩:=‹Shut (_ = _)›; subst e; try dsimp only))
local macro_rules | `(tactic| walk_at "rd") => do
 let ls <- (nm0.splitOn " ").toArray.mapM fun n => let i:=Lean.mkIdent n.toName; `(Lean.Parser.Tactic.simpLemma| $i:ident)
 `(tactic| ((try dsimp only [$[$ls:simpLemma],*]); try simp only [*,$[$ls:simpLemma],*]))
section
variable {P : Program} {w : World} {K : PySem.W.Frag} {mg : Str -> Option Value} {base : Heap}
def spWs : Sp3:=fun ts H Q => ∃ (c : Addr) (most wi : Int),ts = [.ref c,.int most,.int wi] /\ 1 <= most /\ most <= 8 /\ Cl H c /\ ∀ (W : Wk) (H' : Hp3),WkOk W -> (W.tasks.length : Int) <= most -> Drw c H H' -> Q W.enc H'
structure Wt (c : Addr) (H0 H : Hp3) (fs : List (Addr × O3)) : Prop where
 cl : Cl H c
 kp : Kep c H0 H
 at' : ∀ p ∈ fs,H p.1 = some p.2 /\ p.1 ≠ c
theorem Wt.drw {c : Addr} {H0 H H' : Hp3} {fs : List (Addr × O3)} (w : Wt c H0 H fs) (d : Drw c H H') : Wt c H0 H' fs:=⟨d.cl,w.kp.drw d,fun p hp => ⟨by rw [d.off _ (w.at' p hp).2]; exact (w.at' p hp).1,(w.at' p hp).2⟩⟩
theorem Wt.new {c p : Addr} {H0 H : Hp3} {fs : List (Addr × O3)} {o : O3} (w : Wt c H0 H fs) (hp : H p = none) : Wt c H0 (up3 H p o) ((p,o) :: fs):=⟨w.cl.new (w.cl.ne hp),w.kp.new hp,fun q hq => by
 rcases List.mem_cons.mp hq with rfl | hq
 ·
  exact ⟨up3_same,w.cl.ne hp⟩
 ·
  exact ⟨by rw [up3_ne (ne3n (w.at' q hq).1 hp)]; exact (w.at' q hq).1,(w.at' q hq).2⟩⟩
theorem Nms.take {ws : List Str} (h : Nms ws) (n : Nat) : Nms (ws.take n):=⟨fun x hx => h.nm x (List.mem_of_mem_take hx),h.nd.sublist (List.take_sublist n ws)⟩
theorem mem_getD {α : Type} (xs : List α) (d : α) {i : Nat} (h : i < xs.length) : xs.getD i d ∈ xs:=by
 rw [List.getD_eq_getElem?_getD,List.getElem?_eq_getElem h]
 exact List.getElem_mem h
abbrev N_works : List Str:=["_law_cells","_law_most","_law_withs","_law_head","_law_many","_law_free","_law_names_here","_law_pool","_law_tasks_here","_law_orders_here","_law_pairs_here","_law_cell","_law_row"]
theorem sc_works : FnScope N_works ["_law_cells","_law_most","_law_withs"] (defScope (top 27)):=sc_mk
theorem ok_works {f : Addr} {fd : FuncData} (g : G3 K mg "_law_works" (top 27) ["_law_cells","_law_most","_law_withs"] f fd) (B : Bl mg) (F_turn : Cal P w K mg base 1 "_law_turn" (top 24) ["_law_cell","_law_names_here"] spTu) (F_next : Cal P w K mg base 2 "_law_next" (top 21) ["_law_cells"] spNx) (F_pairs : Cal P w K mg base 1 "_law_pairs" (top 26) ["_law_cell","_law_names_here","_law_many","_law_withs"] spPs) (F_orders : Cal P w K mg base 1 "_law_orders" (top 25) ["_law_cell","_law_turn_here","_law_often"] spOs) (F_tasks : Cal P w K mg base 3 "_law_tasks" (top 23) ["_law_cells","_law_names_here","_law_pool","_law_free"] spTs) (F_names : Cal P w K mg base 1 "_law_names" (top 19) ["_law_cell","_law_many"] spNs) : Cal P w K mg base 4 "_law_works" (top 27) ["_law_cells","_law_most","_law_withs"] spWs:=by
 refine ⟨f,fd,g,?_⟩
 refine fn3 g.fn sc_works (fun ts H Q h => ?_) (fun cdv A outer s H E ts H3 Q hr h => ?_)
 ·
  obtain ⟨c,most,wi,rfl,_⟩:=h; rfl
 ·
  have hu30:=Room.u30 hr
  have hu31:=Room.u31 hr
  have hu1:=Room.u1 hr
  obtain ⟨c,most,wi,rfl,o1,o8,D,k⟩:=h
  refine ⟨_,(ss3_cons (s3_set (i:=3) sc_works.nd (e3_cl F_next hr rfl (a3_cons (v3 0) a3_nil)))
    (ss3_cons (s3_set (i:=4) sc_works.nd (e3_op o3_add c3_int (e3_op o3_mod (v3 3) (v3 1))))
    (ss3_cons (s3_set (i:=5) sc_works.nd (e3_cmp (o3_eq hu30) (e3_op o3_mod (e3_op o3_fdiv (v3 3) c3_int) c3_int) c3_int))
    (ss3_cons (s3_set (i:=6) sc_works.nd (e3_cl F_names hr rfl (a3_cons (e3_cl F_next hr rfl (a3_cons (v3 0) a3_nil)) (a3_cons (v3 4) a3_nil))))
    (ss3_cons (s3_set (i:=7) sc_works.nd (e3_slice (e3_cl F_names hr rfl (a3_cons (e3_cl F_next hr rfl (a3_cons (v3 0) a3_nil)) (a3_cons c3_int a3_nil))) po3_none (po3_some (e3_op o3_add c3_int (e3_op o3_mod (e3_op o3_fdiv (v3 3) c3_int) c3_int)))))
    (ss3_cons (s3_set (i:=8) sc_works.nd (e3_cl F_tasks hr rfl (a3_cons (v3 0) (a3_cons (v3 6) (a3_cons (v3 7) (a3_cons (v3 5) a3_nil))))))
    (ss3_cons (s3_set (i:=9) sc_works.nd (e3_cl F_orders hr rfl (a3_cons (e3_cl F_next hr rfl (a3_cons (v3 0) a3_nil)) (a3_cons (e3_cl F_turn hr rfl (a3_cons (e3_cl F_next hr rfl (a3_cons (v3 0) a3_nil)) (a3_cons (v3 6) a3_nil))) (a3_cons (e3_op o3_add c3_int (e3_op o3_mod (e3_op o3_fdiv (v3 3) c3_int) c3_int)) a3_nil)))))
    (ss3_cons (s3_set (i:=10) sc_works.nd (e3_cl F_pairs hr rfl (a3_cons (e3_cl F_next hr rfl (a3_cons (v3 0) a3_nil)) (a3_cons (v3 6) (a3_cons (e3_op o3_mod (e3_op o3_fdiv (v3 3) c3_int) (e3_ix ix3 (e3_lst (a3_cons c3_int (a3_cons c3_int a3_nil))) (e3_callTy c3_int' rfl B.int_ bt_int (a3_cons (v3 5) a3_nil)))) (a3_cons (v3 2) a3_nil))))))
    (ss3_cons (s3_set (i:=11) sc_works.nd (e3_cl F_next hr rfl (a3_cons (v3 0) a3_nil)))
    (ss3_cons (s3_setC (i:=12) rfl sc_works.nd (compSc (n0:=(defScope (top 27)).names) (N:=N_works) (N':=["_law_k","_law_pool","_law_cell"]) (nt:=1) (cap:=[7,11]) rfl rfl (by decide +kernel)) (i3_range1 rfl B.range_ (a3_cons (e3_op o3_add c3_int (e3_op o3_mod (v3 11) (e3_ix ix3 (e3_lst (a3_cons c3_int (a3_cons c3_int a3_nil))) (e3_callTy c3_int' rfl B.int_ bt_int (a3_cons (v3 5) a3_nil))))) a3_nil)) (fun cl pins s H C0 fp => ⟨(g3_name (i:=0) (show List.Nodup [("_law_k" : Str),("_law_pool" : Str),("_law_cell" : Str)] by decide +kernel)),if3_nil,(e3_ix ix3 (v3 1) (e3_op o3_mod (e3_op o3_fdiv (v3 2) (e3_op o3_shl c3_int (e3_op o3_mul c3_int (v3 0)))) (e3_callB c3_len rfl B.len_ bt_len (a3_cons (v3 1) a3_nil))))⟩))
    (ss3_one (s3_ret (e3_tup (a3_cons (v3 8) (a3_cons (e3_callTy c3_tuple rfl B.tuple_ bt_tuple (a3_cons (e3_cl F_turn hr rfl (a3_cons (e3_cl F_next hr rfl (a3_cons (v3 0) a3_nil)) (a3_cons (v3 9) a3_nil))) a3_nil)) (a3_cons (v3 10) (a3_cons (e3_callTy c3_tuple rfl B.tuple_ bt_tuple (a3_cons (v3 12) a3_nil)) a3_nil))))))))))))))))),?_⟩
  rw [show start3 N_works [T.ref c,T.int most,T.int wi] = [some (T.ref c),some (T.int most),some (T.int wi),none,none,none,none,none,none,none,none,none,none] from rfl]
  have hsz : sizeLine = 16777216:=rfl
  refine seq_cut fun R1 hR1 => ?_
  walk_at "rd"
  refine ⟨c,rfl,D,fun hd H1 hD1 => ?_⟩
  have w1 : Wt c H3 H1 []:=⟨hD1.cl,Kep.refl.drw hD1,(fun _ h => nomatch h)⟩
  walk_at "nx"
  refine seq_cut fun R2 hR2 => ?_
  walk_at "rd"
  have h0m:=Int.emod_nonneg hd (show most ≠ 0 by omega)
  have h1m:=Int.emod_lt_of_pos hd (show 0 < most by omega)
  refine ⟨by omega,?_⟩
  walk_at "nx"
  refine seq_cut fun R3 hR3 => ?_
  walk_at "rd"
  refine ⟨⟨by decide,by decide +kernel⟩,by decide,?_⟩
  walk_at "nx"
  generalize decide (hd / 8 % 3 = 1) = free
  generalize hmany : 1 + hd % most = many
  have m1 : 1 <= many:=by omega
  have m8 : many <= most:=by omega
  clear hmany h0m h1m
  refine seq_cut fun R4 hR4 => ?_
  walk_at "rd"
  refine ⟨c,rfl,w1.cl,fun n2 H2 hD2 => ?_⟩
  have w2:=w1.drw hD2
  dsimp only
  refine ⟨n2,many,rfl,by omega,by omega,fun pn ws hpn hws hwl => ?_⟩
  have w3:=w2.new (o:=.lst (ws.map T.str)) hpn
  generalize up3 H2 pn (.lst (ws.map T.str)) = H4 at w3
  walk_at "nx"
  refine seq_cut fun R5 hR5 => ?_
  walk_at "rd"
  refine ⟨c,rfl,w3.cl,fun n3 H5 hD3 => ?_⟩
  have w4:=w3.drw hD3
  dsimp only
  refine ⟨n3,4,rfl,by decide,by decide,fun pq ws4 hpq hws4 hwl4 => ?_⟩
  have w5:=w4.new (o:=.lst (ws4.map T.str)) hpq
  generalize up3 H5 pq (.lst (ws4.map T.str)) = H6 at w5
  clear hD1 hD2 hD3 w1 w2 w3 w4 hpn hpq
  have f1:=(w5.at' (pq,.lst (ws4.map T.str)) (by simp)).1
  dsimp only at f1
  obtain ⟨j,hj⟩:=Int.eq_ofNat_of_zero_le (show 0 <= 2 + hd / 24 % 3 by omega)
  have hj2 : 2 <= j:=by omega
  have hj4 : j <= 4:=by omega
  have ec : cut3 (ws4.map T.str) none (some (2 + hd / 24 % 3)) = (ws4.take j).map T.str:=by rw [hj,cut_to,List.map_take]
  clear hj
  walk_at "rd"
  refine ⟨⟨by decide,by decide +kernel⟩,by decide,fun pl hpl => ?_⟩
  have hpl4 : (ws4.take j).length = j:=by rw [List.length_take]; omega
  have hpN : Nms (ws4.take j):=hws4.take j
  generalize ws4.take j = pool at hpl4 hpN
  have hpl2 : 2 <= pool.length:=by omega
  have hpl5 : pool.length <= 4:=by omega
  clear hpl4
  have w6:=w5.new (o:=.lst (pool.map T.str)) hpl
  clear w5 f1 ec
  generalize up3 H6 pl (.lst (pool.map T.str)) = H7 at w6
  have g1:=w6.at' (pn,.lst (ws.map T.str)) (by simp)
  have g2:=w6.at' (pl,.lst (pool.map T.str)) (by simp)
  walk_at "nx"
  refine seq_cut fun R6 hR6 => ?_
  walk_at "rd"
  refine ⟨c,pn,pl,ws,pool,free,rfl,w6.cl,g1.2,g2.2,g1.1,g2.1,hws,hpN,by omega,by omega,by omega,fun tk H8 htk hok hD4 => ?_⟩
  have w7:=w6.drw hD4
  clear w6 hD4 g1 g2
  dsimp only
  walk_at "nx"
  refine seq_cut fun R7 hR7 => ?_
  walk_at "rd"
  refine ⟨c,rfl,w7.cl,fun n5 H9 hD5 => ?_⟩
  have w8:=w7.drw hD5
  dsimp only
  refine ⟨c,rfl,w8.cl,fun n6 H10 hD6 => ?_⟩
  have w9:=w8.drw hD6
  clear w7 w8 hD5 hD6
  dsimp only
  refine ⟨Str,T.str,n6,pn,ws,rfl,(w9.at' (pn,.lst (ws.map T.str)) (by simp)).1,by omega,fun pt wt hpt hper => ?_⟩
  have w10:=w9.new (o:=.lst (wt.map T.str)) hpt
  clear w9
  generalize up3 H10 pt (.lst (wt.map T.str)) = H11 at w10
  walk_at "rd"
  refine ⟨⟨by decide,by decide +kernel⟩,by decide,?_⟩
  refine ⟨n5,pt,_,wt,rfl,(w10.at' (pt,.lst (wt.map T.str)) (by simp)).1,hper.nodup_iff.mpr hws.nd,by rw [hper.length_eq]; omega,by omega,by omega,fun po os hpo ho28 hond hoo => ?_⟩
  have w11:=w10.new (o:=.lst (os.map orT)) hpo
  clear w10
  generalize up3 H11 po (.lst (os.map orT)) = H12 at w11
  dsimp only
  walk_at "nx"
  refine seq_cut fun R8 hR8 => ?_
  walk_at "rd"
  refine ⟨c,rfl,w11.cl,fun n7 H13 hD7 => ?_⟩
  have w12:=w11.drw hD7
  clear w11 hD7
  walk_at "rd"
  refine ⟨⟨by decide,by decide +kernel⟩,by omega,fun p6 hp6 => ?_⟩
  obtain ⟨u,eu,u0,u13⟩ : ∃ u : Int,atI [T.int 6,T.int 13] (if free = true then 1 else 0) = some (T.int u) /\ 0 < u /\ u <= 13:=by
   cases free
   ·
    exact ⟨6,at0 _ _,by decide,by decide⟩
   ·
    exact ⟨13,at1 _ _ _,by decide,by decide⟩
  rw [eu,q_oq,q_I]
  refine ⟨u0,?_⟩
  have w13:=w12.new (o:=.lst [T.int 6,T.int 13]) hp6
  clear w12 eu
  generalize up3 H13 p6 (.lst [T.int 6,T.int 13]) = H14 at w13
  refine ⟨n7,pn,_,wi,ws,rfl,(w13.at' (pn,.lst (ws.map T.str)) (by simp)).1,by omega,by omega,Int.emod_nonneg _ (by omega),by have:=Int.emod_lt_of_pos (hd / 288) u0; omega,fun ps hp12 hpnd hpp => ?_⟩
  dsimp only
  walk_at "nx"
  refine seq_cut fun R9 hR9 => ?_
  walk_at "rd"
  refine ⟨c,rfl,w13.cl,fun cell H15 hD8 => ?_⟩
  have w14:=w13.drw hD8
  clear w13 hD8
  walk_at "nx"
  refine seq_cut fun R10 hR10 => ?_
  walk_at "rd"
  refine ⟨by omega,fun p8 hp8 => ?_⟩
  obtain ⟨v,ev,v0,v8⟩ : ∃ v : Int,atI [T.int 5,T.int 8] (if free = true then 1 else 0) = some (T.int v) /\ 0 < v /\ v <= 8:=by
   cases free
   ·
    exact ⟨5,at0 _ _,by decide,by decide⟩
   ·
    exact ⟨8,at1 _ _ _,by decide,by decide⟩
  rw [ev,q_oq,q_I]
  refine ⟨v0,?_⟩
  rw [q_addI]
  have c0:=Int.emod_nonneg cell (show v ≠ 0 by omega)
  have c1:=Int.emod_lt_of_pos cell v0
  refine ⟨trivial,?_⟩
  rw [q_rg1]
  refine ⟨by omega,by omega,?_⟩
  have w15:=w14.new (o:=.lst [T.int 5,T.int 8]) hp8
  clear w14 ev
  generalize up3 H15 p8 (.lst [T.int 5,T.int 8]) = H16 at w15
  walk_at "cp"
  obtain ⟨nn,hnn⟩ : ∃ nn : Nat,(1 + cell % v).toNat = nn:=⟨_,rfl⟩
  rw [hnn,rng0]
  have nn1 : 1 <= nn:=by omega
  have nn8 : nn <= 8:=by omega
  clear hnn
  have gp:=(w15.at' (pl,.lst (pool.map T.str)) (by simp)).1
  dsimp only at gp
  have pp0 : (0 : Int) < (pool.length : Int):=by omega
  refine cIter_pure (fun i : Nat => T.int (i : Int)) (fun i => T.str (pool.getD ((cell / (64 * 2 ^ (2 * (i : Int)).toNat) % (pool.length : Int)).toNat) "")) (List.range nn) [some (T.ref pl),some (T.int cell)] trivial (by rw [List.length_range]; omega) (fun i hi Q' hq => ?_) (fun pr hpr => ?_)
  ·
   rw [List.mem_range] at hi
   have hm : 0 < (2 : Int) ^ (2 * (i : Int)).toNat /\ (2 : Int) ^ (2 * (i : Int)).toNat <= 65536:=by
    have : i = 0 \/ i = 1 \/ i = 2 \/ i = 3 \/ i = 4 \/ i = 5 \/ i = 6 \/ i = 7:=by omega
    rcases this with rfl | rfl | rfl | rfl | rfl | rfl | rfl | rfl <;> decide
   have cd : CDiv3 cell (64 * 2 ^ (2 * (i : Int)).toNat):=log_64 (i:=cell) (by omega) (by omega)
   have cp : CPow 64 (2 * (i : Int)):=⟨by omega,by omega,by decide⟩
   have cm : CMul 2 (i : Int):=.inl ⟨by decide,by decide⟩
   have e0:=Int.emod_nonneg (cell / (64 * 2 ^ (2 * (i : Int)).toNat)) (show (pool.length : Int) ≠ 0 by omega)
   have e1:=Int.emod_lt_of_pos (cell / (64 * 2 ^ (2 * (i : Int)).toNat)) pp0
   have ea : atI (pool.map T.str) (cell / (64 * 2 ^ (2 * (i : Int)).toNat) % (pool.length : Int)) = some (T.str (pool.getD ((cell / (64 * 2 ^ (2 * (i : Int)).toNat) % (pool.length : Int)).toNat) "")):=by
    generalize cell / (64 * 2 ^ (2 * (i : Int)).toNat) % (pool.length : Int) = ix at e0 e1
    obtain ⟨t,rfl⟩:=Int.eq_ofNat_of_zero_le e0
    have ht : t < pool.length:=by omega
    refine atI_nat ?_
    rw [List.getElem?_map,List.getElem?_eq_getElem ht,Int.toNat_natCast,List.getD_eq_getElem?_getD,List.getElem?_eq_getElem ht]
    rfl
   clear hm e0 e1 k
   walk_at "rd"
   exact ⟨by first | trivial | exact cm,by first | trivial | exact cp,by first | trivial | exact cd,by first | trivial | exact pp0,by first | trivial | exact hq⟩
  ·
   have w16:=w15.new (o:=.lst ((List.range nn).map fun (i : Nat) => T.str (pool.getD ((cell / (64 * 2 ^ (2 * (i : Int)).toNat) % (pool.length : Int)).toNat) ""))) hpr
   clear w15 gp
   generalize up3 H16 pr (.lst ((List.range nn).map fun (i : Nat) => T.str (pool.getD ((cell / (64 * 2 ^ (2 * (i : Int)).toNat) % (pool.length : Int)).toNat) ""))) = H17 at w16
   walk_at "nx"
   walk_at "rd"
   refine ⟨c,rfl,w16.cl,fun n9 H18 hD9 => ?_⟩
   have w17:=w16.drw hD9
   clear w16 hD9
   dsimp only
   refine ⟨Str × Str,orT,n9,po,os,rfl,(w17.at' (po,.lst (os.map orT)) (by simp)).1,by omega,fun pz oz hpz hperz => ?_⟩
   have w18:=w17.new (o:=.lst (oz.map orT)) hpz
   clear w17
   dsimp only
   rw [q_tupL,up3_same,q_tpH]
   generalize up3 H18 pz (.lst (oz.map orT)) = H19 at w18
   have gr:=(w18.at' (pr,.lst ((List.range nn).map fun (i : Nat) => T.str (pool.getD ((cell / (64 * 2 ^ (2 * (i : Int)).toNat) % (pool.length : Int)).toNat) ""))) (by simp)).1
   dsimp only at gr
   rw [gr,q_tpH]
   refine ⟨by omega,fin_drw w18.cl w18.kp fun H'' hD => ?_⟩
   have hmem : ∀ i : Nat,pool.getD ((cell / (64 * 2 ^ (2 * (i : Int)).toNat) % (pool.length : Int)).toNat) "" ∈ pool:=fun i => by
    have e0:=Int.emod_nonneg (cell / (64 * 2 ^ (2 * (i : Int)).toNat)) (show (pool.length : Int) ≠ 0 by omega)
    have e1:=Int.emod_lt_of_pos (cell / (64 * 2 ^ (2 * (i : Int)).toNat)) pp0
    exact mem_getD _ _ (by omega)
   have htl : tk.length = ws.length:=by rw [<- htk,List.length_map]
   have hW : WkOk ⟨tk,oz,ps,(List.range nn).map fun (i : Nat) => pool.getD ((cell / (64 * 2 ^ (2 * (i : Int)).toNat) % (pool.length : Int)).toNat) ""⟩:=by
    refine ⟨?_,?_,hok,?_,?_,?_,?_,hp12,hpnd,?_,?_,?_,?_⟩
    ·
     show 1 <= tk.length; omega
    ·
     show tk.length <= 8; omega
    ·
     show (tk.map (·.1)).Nodup; rw [htk]; exact hws.nd
    ·
     show oz.length <= 28; rw [hperz.length_eq]; exact ho28
    ·
     exact hperz.nodup_iff.mpr hond
    ·
     intro o ho
     show _ /\ o.1 ∈ tk.map (·.1) /\ o.2 ∈ tk.map (·.1)
     rw [htk]
     obtain ⟨a1,a2,a3⟩:=hoo o (hperz.subset ho)
     exact ⟨a1,hper.subset a2,hper.subset a3⟩
    ·
     intro o ho
     show _ /\ _ /\ o.2.1 ∈ tk.map (·.1) /\ o.2.2 ∈ tk.map (·.1)
     rw [htk]
     exact hpp o ho
    ·
     show 1 <= ((List.range nn).map _).length; rw [List.length_map,List.length_range]; exact nn1
    ·
     show ((List.range nn).map _).length <= 8; rw [List.length_map,List.length_range]; exact nn8
    ·
     intro x hx
     obtain ⟨i,_,rfl⟩:=List.mem_map.mp hx
     exact hpN.nm _ (hmem i)
   have kk:=k _ H'' hW (by show (tk.length : Int) <= most; omega) hD
   simp only [Wk.enc,sT,List.map_map,Function.comp_def] at kk
   exact kk
end
end M
namespace M
universe u
variable {α : Type u}
inductive TC (R : α -> α -> Prop) : α -> α -> Prop
 | base {a b : α} : R a b -> TC R a b
 | step {a b c : α} : TC R a b -> R b c -> TC R a c
inductive RT (R : α -> α -> Prop) : α -> α -> Prop
 | refl {a : α} : RT R a a
 | step {a b c : α} : RT R a b -> R b c -> RT R a c
theorem TC.trans {R : α -> α -> Prop} {a b c : α} (h : TC R a b) (g : TC R b c) : TC R a c:=by
 induction g with
 | base r => exact .step h r
 | step _ r ih => exact .step ih r
theorem TC.rt {R : α -> α -> Prop} {a b : α} (h : TC R a b) : RT R a b:=by
 induction h with
 | base r => exact .step .refl r
 | step _ r ih => exact .step ih r
theorem RT.trans {R : α -> α -> Prop} {a b c : α} (h : RT R a b) (g : RT R b c) : RT R a c:=by
 induction g with
 | refl => exact h
 | step _ r ih => exact .step ih r
theorem RT.mono {R S : α -> α -> Prop} (hs : ∀ a b,R a b -> S a b) {a b : α} (h : RT R a b) : RT S a b:=by
 induction h with
 | refl => exact .refl
 | step _ r ih => exact .step ih (hs _ _ r)
theorem TC.mono {R S : α -> α -> Prop} (hs : ∀ a b,R a b -> S a b) {a b : α} (h : TC R a b) : TC S a b:=by
 induction h with
 | base r => exact .base (hs _ _ r)
 | step _ r ih => exact .step ih (hs _ _ r)
theorem TC.last {R : α -> α -> Prop} {a b : α} (h : TC R a b) : ∃ c,R c b:=by
 cases h with
 | base r => exact ⟨_,r⟩
 | step _ r => exact ⟨_,r⟩
noncomputable def fwS (f : α -> α -> Bool) (m : α) : α -> α -> Bool:=fun a b => f a b || (f a m && f m b)
noncomputable def fw (f : α -> α -> Bool) (A : List α) : α -> α -> Bool:=A.foldl fwS f
theorem fw_snoc (f : α -> α -> Bool) (A : List α) (m : α) : fw f (A ++ [m]) = fwS (fw f A) m:=by unfold fw; rw [List.foldl_append]; rfl
theorem fw_base (f : α -> α -> Bool) {a b : α} (h : f a b = true) : ∀ A : List α,fw f A a b = true:=by
 intro A
 induction A generalizing f with
 | nil => exact h
 | cons m A ih => exact ih (fwS f m) (by unfold fwS; rw [h]; rfl)
theorem fw_sound (f : α -> α -> Bool) : ∀ (A : List α) (a b : α),fw f A a b = true -> TC (fun x y => f x y = true) a b:=by
 intro A
 induction A generalizing f with
 | nil => intro a b h; exact .base h
 | cons m A ih =>
  intro a b h
  have h2:=ih (fwS f m) a b h
  clear h ih
  have one : ∀ x y,fwS f m x y = true -> TC (fun x y => f x y = true) x y:=by
   intro x y h
   unfold fwS at h
   rw [Bool.or_eq_true,Bool.and_eq_true] at h
   rcases h with h | ⟨h1,h2⟩
   ·
    exact .base h
   ·
    exact .step (.base h1) h2
  induction h2 with
  | base r => exact one _ _ r
  | step _ r ih => exact ih.trans (one _ _ r)
theorem fw_via (f : α -> α -> Bool) (B : List α) : ∀ k ∈ B,∀ i j,fw f B i k = true -> fw f B k j = true -> fw f B i j = true:=by
 have key : ∀ (n : Nat) (B : List α),B.length = n -> ∀ k ∈ B,∀ i j,fw f B i k = true -> fw f B k j = true -> fw f B i j = true:=by
  intro n
  induction n with
  | zero => intro B hB k hk; rw [List.eq_nil_of_length_eq_zero hB] at hk; cases hk
  | succ n ih =>
   intro B hB k hk i j h1 h2
   rcases List.eq_nil_or_concat B with e | ⟨A,m,e⟩
   ·
    subst e; cases hB
   ·
    rw [List.concat_eq_append] at e
    subst e
    have hA : A.length = n:=by simpa using hB
    have T:=ih A hA
    rw [fw_snoc] at h1 h2 ⊢
    generalize fw f A = g at *
    unfold fwS at *
    rw [Bool.or_eq_true,Bool.and_eq_true] at *
    rcases List.mem_append.mp hk with hk | hk
    ·
     rcases h1 with a | ⟨a,b⟩ <;> rcases h2 with c | ⟨c,d⟩
     ·
      exact .inl (T k hk i j a c)
     ·
      exact .inr ⟨T k hk i m a c,d⟩
     ·
      exact .inr ⟨a,T k hk m j b c⟩
     ·
      exact .inr ⟨a,d⟩
    ·
     have hk' : k = m:=by simpa using hk
     subst hk'
     have a : g i k = true:=by rcases h1 with a | ⟨a,_⟩ <;> exact a
     have d : g k j = true:=by rcases h2 with c | ⟨_,d⟩ <;> assumption
     exact .inr ⟨a,d⟩
 exact key B.length B rfl
theorem fw_iff {f : α -> α -> Bool} {B : List α} (hf : ∀ a b,f a b = true -> b ∈ B) {a b : α} : fw f B a b = true ↔ TC (fun x y => f x y = true) a b:=by
 constructor
 ·
  exact fw_sound f B a b
 ·
  intro h
  induction h with
  | base r => exact fw_base f r B
  | step t r ih =>
   obtain ⟨c,hc⟩:=t.last
   exact fw_via f B _ (hf _ _ hc) _ _ ih (fw_base f r B)
end M
set_option maxHeartbeats 1000000
namespace L3
open PySem PySem.Spec PyProof.Rows L2
noncomputable def key3 : T -> Option Key
 | .int i => some (.inl i)
 | .str x => some (.inr x)
 | _ => none
noncomputable def keys3 : List T -> Option (List Key)
 | [] => some []
 | t :: r => match key3 t,keys3 r with
  | some k,some ks => some (k :: ks)
  | _,_ => none
theorem keys3_rep {K : PySem.W.Frag} {H : Hp} : ∀ {ts : List T} {xs : List V} {ks : List Key},keys3 ts = some ks -> Reps K H ts xs -> xs = ks.map kV
 | [],xs,ks,e,r => by cases e; exact r.inv0
 | t :: ts,xs,ks,e,r => by
  obtain ⟨v,rest,rfl,rv,rr⟩:=r.inv
  unfold keys3 at e
  split at e
  ·
   rename_i k kr e1 e2
   cases e
   rw [keys3_rep e2 rr]
   cases t with
   | int i => cases e1; rw [rv.int]; rfl
   | str x => cases e1; rw [rv.str]; rfl
   | _ => cases e1
  ·
   cases e
noncomputable def lookP (k : List Key) : List (List Key × T) -> Option T
 | [] => none
 | (k',v) :: r => if k' = k then some v else lookP k r
noncomputable def putP (k : List Key) (v : T) (kvs : List (List Key × T)) : List (List Key × T) :=
 if (kvs.any fun kv => decide (kv.1 = k)) = true then kvs.map (fun kv => if kv.1 = k then (kv.1,v) else kv) else kvs ++ [(k,v)]
theorem lookP_rep {K : PySem.W.Frag} {H : Hp} {k : List Key} : ∀ {kvs : List (List Key × T)} {vs : List (List Key × V)} {t : T},RepP K H kvs vs -> lookP k kvs = some t -> ∃ v,valV vs k = some v /\ Rep K H t v
 | [],_,_,_,e => by cases e
 | (k',t') :: r,_,t,.cons (b:=(kk,v')) ⟨e1,rv⟩ rr,e => by
  simp only at e1 rv
  subst e1
  unfold lookP at e
  by_cases hk : kk = k
  ·
   rw [if_pos hk] at e
   cases e
   exact ⟨v',by rw [valV_pos (by exact hk)],rv⟩
  ·
   rw [if_neg hk] at e
   obtain ⟨v,ev,q⟩:=lookP_rep rr e
   exact ⟨v,by rw [valV_neg (by exact hk)]; exact ev,q⟩
theorem putP_rep {K : PySem.W.Frag} {H : Hp} {k : List Key} {t : T} {v : V} (rv : Rep K H t v) {kvs : List (List Key × T)} {vs : List (List Key × V)} (r : RepP K H kvs vs) : RepP K H (putP k t kvs) (putK vs k v):=by
 have e : ∀ {kvs : List (List Key × T)} {vs : List (List Key × V)},RepP K H kvs vs -> (kvs.any fun kv => decide (kv.1 = k)) = (vs.any fun kv => decide (kv.1 = k)) /\ RepP K H (kvs.map (fun kv => if kv.1 = k then (kv.1,t) else kv)) (vs.map (fun kv => if kv.1 = k then (kv.1,v) else kv)):=by
  intro kvs
  induction kvs with
  | nil => intro vs r; cases r; exact ⟨rfl,.nil⟩
  | cons p l ih =>
   intro vs r
   cases r with
   | cons q rr =>
    rename_i b l2
    obtain ⟨e1,e2⟩:=ih rr
    obtain ⟨q1,q2⟩:=q
    obtain ⟨bk,bv⟩:=b
    simp only at q1 q2
    subst q1
    by_cases hk : p.1 = k
    ·
     refine ⟨by simp [hk],?_⟩
     simp only [List.map_cons,hk,if_true]
     exact .cons ⟨rfl,rv⟩ e2
    ·
     refine ⟨by simp only [List.any_cons,hk,decide_false,Bool.false_or]; exact e1,?_⟩
     simp only [List.map_cons,hk,if_false]
     exact .cons ⟨rfl,q2⟩ e2
 obtain ⟨e1,e2⟩:=e r
 unfold putP putK
 rw [e1]
 split
 ·
  exact e2
 ·
  have app : ∀ {a : List (List Key × T)} {b : List (List Key × V)},RepP K H a b -> RepP K H (a ++ [(k,t)]) (b ++ [(k,v)]):=fun h => Paired.snoc h ⟨rfl,rv⟩
  exact app r
theorem SimH.wrP {K : PySem.W.Frag} {H : Hp} {H3 : Hp3} {a : Addr} {kv : List (List Key × V)} {kvs : List (List Key × T)} {kv' : List (List Key × V)} (s : SimH K H3 H) (hH : H a = some (.dT kv)) (r : RepP K H kvs kv') : SimH K (up3 H3 a (.dcp kvs)) (upd H a (.dT kv')):=fun b o e => by
 have le : TupLe K H (upd H a (.dT kv')):=wr_tupLe (by rw [hH]; exact trivial)
 by_cases hb : b = a
 ·
  subst hb
  rw [up3_same] at e; cases e
  exact ⟨kv',upd_same,r.mono le⟩
 ·
  rw [up3_ne hb] at e
  exact (s b o e).stay le fun u q => by rw [upd_ne hb]; exact q
def dgPH (o : Option O3) (ts : List T) (H : Hp3) (Q : VK3) : Prop:=match o with
 | some (.dcp kvs) => oq (keys3 ts) fun ks => oq (lookP ks kvs) fun t => Q t H
 | _ => False
def dgP (x : T) (ts : List T) (H : Hp3) (Q : VK3) : Prop:=match x with
 | .ref a => dgPH (H a) ts H Q
 | _ => False
def tDGetP3 (td : TE3) (ta : TA3) : TE3:=fun σ H Q => td σ H fun x H1 => ta σ H1 fun ts H2 => ts.length <= sizeLine /\ dgP x ts H2 Q
def dpPH (o : Option O3) (a : Addr) (ts : List T) (v : T) (H : Hp3) (Q : Hp3 -> Prop) : Prop:=match o with
 | some (.dcp kvs) => oq (keys3 ts) fun ks => kvs.length < sizeLine /\ Q (up3 H a (.dcp (putP ks v kvs)))
 | _ => False
def dpP (x : T) (ts : List T) (v : T) (H : Hp3) (Q : Hp3 -> Prop) : Prop:=match x with
 | .ref a => dpPH (H a) a ts v H Q
 | _ => False
def sDPutP3 (td : TE3) (ta : TA3) (tv : TE3) : TS3:=fun D σ H => tv σ H fun v H1 => td σ H1 fun x H2 => ta σ H2 fun ts H3 => ts.length <= sizeLine /\ dpP x ts v H3 fun H4 => D.nx σ H4
section
variable {H : Hp3} {Q : VK3} {σ : St3}
theorem q_dgP (a : Addr) (ts : List T) : dgP (.ref a) ts H Q = dgPH (H a) ts H Q:=rfl
theorem q_dgPH (kvs : List (List Key × T)) (x y : Str) : dgPH (some (.dcp kvs)) [.str x,.str y] H Q = oq (lookP [Sum.inr x,Sum.inr y] kvs) fun t => Q t H:=rfl
theorem q_dpP (a : Addr) (ts : List T) (v : T) (Q : Hp3 -> Prop) : dpP (.ref a) ts v H Q = dpPH (H a) a ts v H Q:=rfl
theorem q_dpPH (kvs : List (List Key × T)) (a : Addr) (x y : Str) (v : T) (Q : Hp3 -> Prop) : dpPH (some (.dcp kvs)) a [.str x,.str y] v H Q = (kvs.length < sizeLine /\ Q (up3 H a (.dcp (putP [Sum.inr x,Sum.inr y] v kvs)))):=rfl
end
section
variable {X : Cx} {o i k value : Expr} {es : List Expr} {td ti tk tv : TE3} {ta : TA3} {pos pos' p2 : Pos} {x1 : Nat}
theorem e3_dgetP (hu : X.A.units + 1 < cLine) (ho : PE3 X o td) (ha : PA3 X es ta) (hs : NoSl (.Tuple es x1 p2):=by exact fun _ _ => rfl) : PE3 X (.Subscript o (.Tuple es x1 p2) pos) (tDGetP3 td ta):=by
 refine PE.imp (pe_dget hu ho (pe_tup ha) hs) ?_
 rintro σ H Q ⟨σ3,H3,Q3,ss,sh,h,k⟩
 refine ⟨σ3,H3,_,ss,sh,h,fun x H1 tx H31 le1 sh1 rx q1 => ⟨σ3,H31,_,ss.mono le1,sh1,q1,fun vs H2 ts H32 le2 sh2 rs q2 => ⟨by rw [<- rs.length]; exact q2.1,fun p hp => ?_⟩⟩⟩
 replace q2:=q2.2
 cases tx with
 | ref a =>
  have h' : dgPH (H32 a) ts H32 Q3:=q2
  cases e : H32 a with
  | none => rw [e] at h'; exact h'.elim
  | some ob =>
   rw [e] at h'
   cases ob with
   | dcp kvs =>
    obtain ⟨ws,hH,r⟩:=sh2 a _ e
    have h2 : oq (keys3 ts) (fun ks => oq (lookP ks kvs) fun t => Q3 t H32):=h'
    cases ek : keys3 ts with
    | none => rw [ek] at h2; exact h2.elim
    | some ks =>
     rw [ek] at h2
     have h3 : oq (lookP ks kvs) (fun t => Q3 t H32):=h2
     cases el : lookP ks kvs with
     | none => rw [el] at h3; exact h3.elim
     | some t =>
      rw [el] at h3
      obtain ⟨v,ev,rv⟩:=lookP_rep r el
      have hv:=keys3_rep ek rs
      refine ⟨a,v,(rx.mono le2).ref,?_,k.at (le1.trans le2) _ _ _ _ (upd_tupLe hp) (sh2.new hp) (rv.mono (upd_tupLe hp)) h3⟩
      rw [<- ev]
      exact DGet.t (by rw [upd_ne (ne_of_none hH hp)]; exact hH) (by rw [upd_same,hv])
   | _ => exact h'.elim
 | _ => exact q2.elim
theorem s3_dputP (hu : X.A.units + 1 < cLine) (ho : PE3 X o td) (ha : PA3 X es ta) (hv : PE3 X value tv) (hs : swapsWith value (some (.Subscript o (.Tuple es x1 p2) pos')) pos.line X.env = pure false:=by rfl) :
  PS3 X (.Assign [.Subscript o (.Tuple es x1 p2) pos'] value pos) (sDPutP3 td ta tv):=by
 refine PS.imp (ps_dput hu ho (pe_tup ha) hv hs) ?_
 rintro D σ H ⟨σ3,H3,D3,ss,sh,h,k1,_⟩
 refine ⟨σ3,H3,_,ss,sh,h,fun v H1 tv H31 le1 sh1 rv q1 => ⟨σ3,H31,_,ss.mono le1,sh1,q1,fun x H2 tx H32 le2 sh2 rx q2 => ⟨σ3,H32,_,ss.mono (le1.trans le2),sh2,q2,fun vs H4 ts H34 le4 sh4 rs q4 => ⟨by rw [<- rs.length]; exact q4.1,fun p hp => ?_⟩⟩⟩⟩
 replace q4:=q4.2
 cases tx with
 | ref a =>
  have h' : dpPH (H34 a) a ts tv H34 (fun H4 => D3.nx σ3 H4):=q4
  cases e : H34 a with
  | none => rw [e] at h'; exact h'.elim
  | some ob =>
   rw [e] at h'
   cases ob with
   | dcp kvs =>
    obtain ⟨ws,hH,r⟩:=sh4 a _ e
    have h2 : oq (keys3 ts) (fun ks => kvs.length < sizeLine /\ D3.nx σ3 (up3 H34 a (.dcp (putP ks tv kvs)))):=h'
    cases ek : keys3 ts with
    | none => rw [ek] at h2; exact h2.elim
    | some ks =>
     rw [ek] at h2
     have hvv:=keys3_rep ek rs
     have le5 : TupLe X.K H4 (upd H4 p (.tup vs)):=upd_tupLe hp
     have hH' : upd H4 p (.tup vs) a = some (.dT ws):=by rw [upd_ne (ne_of_none hH hp)]; exact hH
     have le6 : TupLe X.K (upd H4 p (.tup vs)) (upd (upd H4 p (.tup vs)) a (.dT (putK ws ks v))):=wr_tupLe (by rw [hH']; exact trivial)
     have all : TupLe X.K H (upd (upd H4 p (.tup vs)) a (.dT (putK ws ks v))):=le1.trans (le2.trans (le4.trans (le5.trans le6)))
     refine ⟨a,_,(rx.mono le4).ref,?_,k1 _ _ _ _ all (ss.mono all) ((sh4.new hp).wrP hH' (putP_rep (rv.mono (le2.trans (le4.trans le5))) (r.mono le5))) h2.2⟩
     exact DPut.t hH' (by rw [upd_same,hvv]) (by rw [<- Paired.length r]; exact h2.1)
   | _ => exact h'.elim
 | _ => exact q4.elim
def tDNew3 : TE3:=fun _ H Q => ∀ p,H p = none -> Q (.ref p) (up3 H p (.dct []))
def tDNewP3 : TE3:=fun _ H Q => ∀ p,H p = none -> Q (.ref p) (up3 H p (.dcp []))
theorem SimH.newP {K : PySem.W.Frag} {H : Hp} {H3 : Hp3} {p : Addr} (s : SimH K H3 H) (hp : H p = none) : SimH K (up3 H3 p (.dcp [])) (upd H p (.dT [])):=fun a o e => by
 by_cases ha : a = p
 ·
  subst ha
  rw [up3_same] at e; cases e
  exact ⟨[],upd_same,.nil⟩
 ·
  rw [up3_ne ha] at e
  exact s.new hp a o e
theorem e3_dnewP : PE3 X (.Dict [] [] pos) tDNewP3:=by
 refine PE.imp pe_dnewT ?_
 rintro σ H Q ⟨σ3,H3,Q3,ss,sh,h,k⟩ p hp
 exact k _ _ _ _ (upd_tupLe hp) (sh.newP hp) .ofRef (h p (sh.fresh hp))
def d1q (y : T) (p : Addr) (v : T) (H : Hp3) (Q : VK3) : Prop:=match y with
 | .str k => H p = some (.dct []) /\ Q (.ref p) (up3 H p (.dct [(k,v)]))
 | _ => False
def tDisp1 (tk tv : TE3) : TE3:=fun σ H Q => ∀ p,H p = none -> tk σ (up3 H p (.dct [])) fun y H1 => tv σ H1 fun v H2 => d1q y p v H2 Q
theorem q_d1q (x : Str) (p : Addr) (v : T) {H : Hp3} {Q : VK3} : d1q (.str x) p v H Q = (H p = some (.dct []) /\ Q (.ref p) (up3 H p (.dct [(x,v)]))):=rfl
def diH (neg : Bool) (y : T) (o : Option O3) (H : Hp3) (Q : VK3) : Prop:=match y,o with
 | .str k,some (.dct kvs) => Q (.bl (if neg then !(look3 k kvs).isSome else (look3 k kvs).isSome)) H
 | _,_ => False
def diq (neg : Bool) (y x : T) (H : Hp3) (Q : VK3) : Prop:=match x with
 | .ref a => diH neg y (H a) H Q
 | _ => False
def tDIn3 (neg : Bool) (ti to : TE3) : TE3:=fun σ H Q => ti σ H fun y H1 => to σ H1 fun x H2 => diq neg y x H2 Q
theorem q_diq (neg : Bool) (y : T) (a : Addr) {H : Hp3} {Q : VK3} : diq neg y (.ref a) H Q = diH neg y (H a) H Q:=rfl
theorem q_diH (neg : Bool) (k : Str) (kvs : List (Str × T)) {H : Hp3} {Q : VK3} : diH neg (.str k) (some (.dct kvs)) H Q = Q (.bl (if neg then !(look3 k kvs).isSome else (look3 k kvs).isSome)) H:=rfl
end
def seqq (x : T) (H : Hp3) (R : List T -> (Hp3 -> Prop) -> Hp3 -> Prop) : Prop:=match x with
 | .tup ts => R ts still0 H
 | .ref a => liO (H a) a H R
 | _ => False
def iSeqV3 (i : Nat) : TI3:=fun σ H R => vq (σ[i]?) fun x => seqq x H R
theorem q_iSeqV (i : Nat) {σ : St3} {H : Hp3} {R : List T -> (Hp3 -> Prop) -> Hp3 -> Prop} : iSeqV3 i σ H R = vq (σ[i]?) fun x => seqq x H R:=rfl
theorem lookP_put (k j : List Key) (v : T) : ∀ kvs : List (List Key × T),lookP j (putP k v kvs) = if k = j then some v else lookP j kvs:=by
 intro kvs
 have a1 : ∀ kvs : List (List Key × T),(kvs.any fun kv => decide (kv.1 = k)) = false -> lookP j (kvs ++ [(k,v)]) = if k = j then some v else lookP j kvs:=by
  intro kvs
  induction kvs with
  | nil => intro _; rfl
  | cons p r ih =>
   obtain ⟨pk,pv⟩:=p
   intro h
   simp only [List.any_cons,Bool.or_eq_false_iff,decide_eq_false_iff_not] at h
   simp only [List.cons_append,lookP,ih h.2]
   by_cases e : pk = j
   ·
    have : ¬ k = j:=fun z => h.1 (e.trans z.symm)
    simp only [e,this,if_true,if_false]
   ·
    simp only [e,if_false]
 have a2 : ∀ kvs : List (List Key × T),lookP j (kvs.map (fun kv => if kv.1 = k then (kv.1,v) else kv)) = if k = j then (lookP j kvs).map (fun _ => v) else lookP j kvs:=by
  intro kvs
  induction kvs with
  | nil => simp only [List.map_nil,lookP,Option.map_none,ite_self]
  | cons p r ih =>
   obtain ⟨pk,pv⟩:=p
   by_cases e : pk = k
   ·
    subst e
    simp only [List.map_cons,if_true,lookP,ih]
    by_cases e2 : pk = j
    ·
     simp only [e2,if_true,Option.map_some]
    ·
     simp only [e2,if_false]
   ·
    simp only [List.map_cons,e,if_false,lookP,ih]
    by_cases e2 : pk = j
    ·
     have : ¬ k = j:=fun z => e (e2.trans z.symm)
     simp only [e2,this,if_true,if_false]
    ·
     simp only [e2,if_false]
 have a3 : ∀ kvs : List (List Key × T),(kvs.any fun kv => decide (kv.1 = k)) = true -> ∃ w,lookP k kvs = some w:=by
  intro kvs
  induction kvs with
  | nil => intro h; cases h
  | cons p r ih =>
   obtain ⟨pk,pv⟩:=p
   intro h
   by_cases e : pk = k
   ·
    exact ⟨pv,by simp only [lookP,e,if_true]⟩
   ·
    simp only [List.any_cons,e,decide_false,Bool.false_or] at h
    obtain ⟨w,hw⟩:=ih h
    exact ⟨w,by simp only [lookP,e,if_false]; exact hw⟩
 unfold putP
 split
 ·
  rename_i h
  rw [a2]
  by_cases e : k = j
  ·
   subst e
   obtain ⟨w,hw⟩:=a3 kvs h
   simp only [if_true,hw,Option.map_some]
  ·
   simp only [e,if_false]
 ·
  rename_i h
  exact a1 kvs ((Bool.not_eq_true _).mp h)
theorem putP_len (k : List Key) (v : T) (kvs : List (List Key × T)) : (putP k v kvs).length <= kvs.length + 1:=by
 unfold putP
 split
 ·
  rw [List.length_map]; omega
 ·
  rw [List.length_append,List.length_singleton]; omega
theorem putP_len' (k : List Key) (v : T) (kvs : List (List Key × T)) {w : T} (h : lookP k kvs = some w) : (putP k v kvs).length = kvs.length:=by
 have a3 : ∀ kvs : List (List Key × T),lookP k kvs = some w -> (kvs.any fun kv => decide (kv.1 = k)) = true:=by
  intro kvs
  induction kvs with
  | nil => intro h; cases h
  | cons p r ih =>
   obtain ⟨pk,pv⟩:=p
   intro h
   by_cases e : pk = k
   ·
    simp only [List.any_cons,e,decide_true,Bool.true_or]
   ·
    simp only [lookP,e,if_false] at h
    simp only [List.any_cons,ih h,Bool.or_true]
 unfold putP
 rw [a3 kvs h,if_pos rfl,List.length_map]
theorem iter_pre {α : Type} (enc : α -> T) (xs : List α) {g : TG3} {tb : TS3} {D : Ends3} {still : Hp3 -> Prop} {σ : St3} {H : Hp3} (I : List α -> St3 -> Hp3 -> Prop) (h0 : I [] σ H) (hn : ∀ σ H,I xs σ H -> still H /\ D.nx σ H)
  (hs : ∀ A x B σ H (N : St3 -> Hp3 -> Prop),xs = A ++ x :: B -> I A σ H -> (∀ σ' H',I (A ++ [x]) σ' H' -> N σ' H') -> still H /\ g (enc x) σ H fun σ2 H2 => tb { D with nx:=N,ct:=N,bk:=D.nx } σ2 H2) : iter3 g tb D still (xs.map enc) σ H:=by
 have : ∀ (B A : List α) (σ : St3) (H : Hp3),xs = A ++ B -> I A σ H -> iter3 g tb D still (B.map enc) σ H:=by
  intro B
  induction B with
  | nil => intro A σ H e h; rw [List.append_nil] at e; subst e; exact hn σ H h
  | cons x B ih =>
   intro A σ H e h
   exact hs A x B σ H (iter3 g tb D still (B.map enc)) e h fun σ' H' h' => ih (A ++ [x]) σ' H' (by rw [e]; simp) h'
 exact this xs [] σ H rfl h0
theorem cIter_pre {α : Type} (enc : α -> T) (xs : List α) {g : TG3} {tt : TT3} {te : TE3} {still : Hp3 -> Prop} {fin : List T -> Hp3 -> Prop} {σ : St3} {H : Hp3} (I : List α -> List T -> St3 -> Hp3 -> Prop) (h0 : I [] [] σ H) (hn : ∀ ys σ H,I xs ys σ H -> still H /\ ys.length <= sizeLine /\ fin ys H)
  (hs : ∀ A x B ys σ H (N : List T -> St3 -> Hp3 -> Prop),xs = A ++ x :: B -> I A ys σ H -> (∀ ys' σ' H',I (A ++ [x]) ys' σ' H' -> N ys' σ' H') ->
   still H /\ g (enc x) σ H fun σ2 H2 => tt σ2 H2 fun b H3 => if b = true then te σ2 H3 fun y H4 => ys.length < sizeLine /\ N (ys ++ [y]) σ2 H4 else N ys σ2 H3) : cIter3 g tt te still fin (xs.map enc) [] σ H:=by
 have : ∀ (B A : List α) (ys : List T) (σ : St3) (H : Hp3),xs = A ++ B -> I A ys σ H -> cIter3 g tt te still fin (B.map enc) ys σ H:=by
  intro B
  induction B with
  | nil => intro A ys σ H e h; rw [List.append_nil] at e; subst e; exact hn ys σ H h
  | cons x B ih =>
   intro A ys σ H e h
   exact hs A x B ys σ H (cIter3 g tt te still fin (B.map enc)) e h fun ys' σ' H' h' => ih (A ++ [x]) ys' σ' H' (by rw [e]; simp) h'
 exact this xs [] [] σ H rfl h0
end L3
set_option maxHeartbeats 4000000
namespace M
open PySem PySem.Spec PyProof.Rows L2 L3
noncomputable def lkP (ws : List Str) (p : Str × Str × Str) : List (Str × Str):=if p.1 ∈ ws then [(p.2.1,p.2.2),(p.2.2,p.2.1)] else []
noncomputable def lkW (ws : List Str) (W : Wk) : List (Str × Str):=W.orders ++ W.pairs.flatMap (lkP ws)
def lkR (ws : List Str) (W : Wk) (a b : Str) : Prop:=(a,b) ∈ lkW ws W
theorem lkW_in {ws : List Str} {W : Wk} (h : WkOk W) {a b : Str} (m : (a,b) ∈ lkW ws W) : a ∈ W.tasks.map (·.1) /\ b ∈ W.tasks.map (·.1):=by
 unfold lkW at m
 rcases List.mem_append.mp m with m | m
 ·
  exact (h.oo _ m).2
 ·
  obtain ⟨p,hp,hm⟩:=List.mem_flatMap.mp m
  obtain ⟨_,_,q1,q2⟩:=h.pp p hp
  unfold lkP at hm
  split at hm
  ·
   simp only [List.mem_cons,Prod.mk.injEq,List.not_mem_nil,or_false] at hm
   rcases hm with ⟨rfl,rfl⟩ | ⟨rfl,rfl⟩
   ·
    exact ⟨q1,q2⟩
   ·
    exact ⟨q2,q1⟩
  ·
   cases hm
end M
namespace M
open PySem PySem.Spec PyProof.Rows L2 L3
noncomputable def kk (a b : Str) : List Key:=[Sum.inr a,Sum.inr b]
theorem kk_eq {a b c d : Str} : kk a b = kk c d ↔ a = c /\ b = d:=by
 unfold kk
 constructor
 ·
  intro h
  injection h with h1 h2
  injection h2 with h3 _
  injection h1 with h1
  injection h3 with h3
  exact ⟨h1,h3⟩
 ·
  rintro ⟨rfl,rfl⟩; rfl
structure Far (ns : List Str) (kvs : List (List Key × T)) (f : Str -> Str -> Bool) : Prop where
 at' : ∀ a ∈ ns,∀ b ∈ ns,lookP (kk a b) kvs = some (.bl (f a b))
 len : kvs.length <= 64
theorem Far.put {ns : List Str} {kvs : List (List Key × T)} {f : Str -> Str -> Bool} (F : Far ns kvs f) {a b : Str} (ha : a ∈ ns) (hb : b ∈ ns) (v : Bool) : Far ns (putP (kk a b) (.bl v) kvs) (fun x y => if x = a /\ y = b then v else f x y):=by
 refine ⟨fun x hx y hy => ?_,?_⟩
 ·
  rw [lookP_put]
  by_cases h : x = a /\ y = b
  ·
   obtain ⟨rfl,rfl⟩:=h
   simp
  ·
   have h' : ¬ kk a b = kk x y:=fun e => h (by obtain ⟨h1,h2⟩:=kk_eq.mp e; exact ⟨h1.symm,h2.symm⟩)
   rw [if_neg h',if_neg h,F.at' x hx y hy]
 ·
  rw [putP_len' _ _ _ (F.at' a ha b hb)]
  exact F.len
theorem Far.congr {ns : List Str} {kvs : List (List Key × T)} {f g : Str -> Str -> Bool} (F : Far ns kvs f) (h : ∀ a ∈ ns,∀ b ∈ ns,f a b = g a b) : Far ns kvs g:=⟨fun a ha b hb => by rw [F.at' a ha b hb,h a ha b hb],F.len⟩
structure Fil (A : List Str) (x : Str) (B : List Str) (ns : List Str) (kvs : List (List Key × T)) (f : Str -> Str -> Bool) : Prop where
 at' : ∀ a b,b ∈ ns -> (a ∈ A \/ (a = x /\ b ∈ B)) -> lookP (kk a b) kvs = some (.bl (f a b))
 len : kvs.length <= A.length * ns.length + B.length
theorem Fil.put {A : List Str} {x : Str} {B ns : List Str} {kvs : List (List Key × T)} {f : Str -> Str -> Bool} (F : Fil A x B ns kvs f) (y : Str) : Fil A x (B ++ [y]) ns (putP (kk x y) (.bl (f x y)) kvs) f:=by
 refine ⟨fun a b hb h => ?_,?_⟩
 ·
  rw [lookP_put]
  by_cases e : kk x y = kk a b
  ·
   obtain ⟨rfl,rfl⟩:=kk_eq.mp e
   simp
  ·
   rw [if_neg e]
   refine F.at' a b hb ?_
   rcases h with h | ⟨h1,h2⟩
   ·
    exact .inl h
   ·
    subst h1
    rcases List.mem_append.mp h2 with h2 | h2
    ·
     exact .inr ⟨rfl,h2⟩
    ·
     rw [List.mem_singleton] at h2
     subst h2
     exact absurd rfl e
 ·
  have h1:=putP_len (kk x y) (.bl (f x y)) kvs
  have h2:=F.len
  rw [List.length_append,List.length_singleton]
  omega
theorem Fil.next {A : List Str} {x z : Str} {ns : List Str} {kvs : List (List Key × T)} {f : Str -> Str -> Bool} (F : Fil A x ns ns kvs f) : Fil (A ++ [x]) z [] ns kvs f:=by
 refine ⟨fun a b hb h => F.at' a b hb ?_,?_⟩
 ·
  rcases h with h | ⟨_,h⟩
  ·
   rcases List.mem_append.mp h with h | h
   ·
    exact .inl h
   ·
    exact .inr ⟨List.mem_singleton.mp h,hb⟩
  ·
   cases h
 ·
  have h2:=F.len
  rw [List.length_append,List.length_singleton,List.length_nil,Nat.add_mul,Nat.one_mul]
  omega
theorem Fil.far {ns : List Str} {x : Str} {kvs : List (List Key × T)} {f : Str -> Str -> Bool} (F : Fil ns x [] ns kvs f) (h8 : ns.length <= 8) : Far ns kvs f:=by
 refine ⟨fun a ha b hb => F.at' a b hb (.inl ha),?_⟩
 have h:=F.len
 rw [List.length_nil,Nat.add_zero] at h
 exact Nat.le_trans h (Nat.mul_le_mul h8 h8)
noncomputable def fwM (f : Str -> Str -> Bool) (m : Str) (A : List Str) (x : Str) (B : List Str) : Str -> Str -> Bool:=fun a b => if a ∈ A \/ (a = x /\ b ∈ B) then fwS f m a b else f a b
theorem fwM_l (f : Str -> Str -> Bool) (m : Str) (A : List Str) (x : Str) (B : List Str) (a : Str) : fwM f m A x B a m = f a m:=by
 unfold fwM fwS
 split
 ·
  cases f a m <;> simp
 ·
  rfl
theorem fwM_r (f : Str -> Str -> Bool) (m : Str) (A : List Str) (x : Str) (B : List Str) (b : Str) : fwM f m A x B m b = f m b:=by
 unfold fwM fwS
 split
 ·
  cases f m b <;> simp
 ·
  rfl
theorem fwM_put (f : Str -> Str -> Bool) (m : Str) (A : List Str) (x : Str) (B : List Str) (y : Str) (h : f x m = true /\ f m y = true) (a b : Str) : (if a = x /\ b = y then true else fwM f m A x B a b) = fwM f m A x (B ++ [y]) a b:=by
 unfold fwM
 by_cases e : a = x /\ b = y
 ·
  obtain ⟨rfl,rfl⟩:=e
  rw [if_pos ⟨rfl,rfl⟩,if_pos (.inr ⟨rfl,by simp⟩)]
  unfold fwS
  rw [h.1,h.2]
  simp
 ·
  rw [if_neg e]
  by_cases e2 : a ∈ A \/ (a = x /\ b ∈ B)
  ·
   rw [if_pos e2,if_pos (e2.imp id fun z => ⟨z.1,List.mem_append_left _ z.2⟩)]
  ·
   rw [if_neg e2,if_neg]
   rintro (z | ⟨z1,z2⟩)
   ·
    exact e2 (.inl z)
   ·
    rcases List.mem_append.mp z2 with z2 | z2
    ·
     exact e2 (.inr ⟨z1,z2⟩)
    ·
     exact e ⟨z1,List.mem_singleton.mp z2⟩
theorem fwM_skip (f : Str -> Str -> Bool) (m : Str) (A : List Str) (x : Str) (B : List Str) (y : Str) (h : ¬ (f x m = true /\ f m y = true)) (a b : Str) : fwM f m A x B a b = fwM f m A x (B ++ [y]) a b:=by
 unfold fwM
 by_cases e2 : a ∈ A \/ (a = x /\ b ∈ B)
 ·
  rw [if_pos e2,if_pos (e2.imp id fun z => ⟨z.1,List.mem_append_left _ z.2⟩)]
 ·
  rw [if_neg e2]
  by_cases e : a = x /\ b = y
  ·
   obtain ⟨rfl,rfl⟩:=e
   rw [if_pos (.inr ⟨rfl,by simp⟩)]
   unfold fwS
   cases e1 : f a m <;> cases e3 : f m b <;> simp_all
  ·
   rw [if_neg]
   rintro (z | ⟨z1,z2⟩)
   ·
    exact e2 (.inl z)
   ·
    rcases List.mem_append.mp z2 with z2 | z2
    ·
     exact e2 (.inr ⟨z1,z2⟩)
    ·
     exact e ⟨z1,List.mem_singleton.mp z2⟩
theorem fwM_next (f : Str -> Str -> Bool) (m : Str) (A : List Str) (x z : Str) {ns : List Str} (a : Str) {b : Str} (hb : b ∈ ns) : fwM f m A x ns a b = fwM f m (A ++ [x]) z [] a b:=by
 unfold fwM
 have : (a ∈ A \/ (a = x /\ b ∈ ns)) ↔ (a ∈ A ++ [x] \/ (a = z /\ b ∈ ([] : List Str))):=by
  simp [hb]
 simp only [this]
theorem fwM_end (f : Str -> Str -> Bool) (m : Str) (x : Str) {ns : List Str} {a : Str} (ha : a ∈ ns) (b : Str) : fwM f m ns x [] a b = fwS f m a b:=by
 unfold fwM
 rw [if_pos (.inl ha)]
theorem fwM_0 (f : Str -> Str -> Bool) (m : Str) (x : Str) (a b : Str) : fwM f m [] x [] a b = f a b:=by
 unfold fwM
 rw [if_neg (by simp)]
noncomputable def farW (ws : List Str) (W : Wk) (a b : Str) : Bool:=@decide (TC (lkR ws W) a b) (Classical.propDecidable _)
theorem fw_farW {ws : List Str} {W : Wk} (h : WkOk W) (a b : Str) : fw (fun a b => decide ((a,b) ∈ lkW ws W)) (W.tasks.map (·.1)) a b = farW ws W a b:=by
 unfold farW
 rw [Bool.eq_iff_iff,fw_iff fun a b hab => (lkW_in h (of_decide_eq_true hab)).2,@decide_eq_true_iff _ (Classical.propDecidable _)]
 have : (fun x y => decide ((x,y) ∈ lkW ws W) = true) = lkR ws W:=by
  funext x y
  exact propext decide_eq_true_iff
 rw [this]
end M
namespace L3
open PySem PySem.Spec PyProof.Rows L2
section
variable {X : Cx} {e st : Expr} {p2 pos : Pos}
end
end L3
namespace M
open PySem PySem.Spec PyProof.Rows L2 L3
local macro_rules | `(tactic| walk_at "cp") => `(tactic| try dsimp only [cap3,List.replicate,List.map_cons,List.map_nil,List.cons_append,List.nil_append,List.getElem?_cons_zero,List.getElem?_cons_succ,Option.getD_some])
local macro_rules | `(tactic| walk_at "nx") => `(tactic| (obtain ⟨e⟩:=‹Shut (_ = _)›; subst e; try dsimp only))
local macro_rules | `(tactic| walk_at "rd") => do
 let ls <- ((nm0 ++ " q_dgP q_dgPH q_dpP q_dpPH tDGetP3 sDPutP3 tDNew3 tDNewP3 tDisp1 q_d1q tDIn3 q_diq q_diH q_iSeqV").splitOn " ").toArray.mapM fun n => let i:=Lean.mkIdent n.toName; `(Lean.Parser.Tactic.simpLemma| $i:ident)
 `(tactic| ((try dsimp only [$[$ls:simpLemma],*]); try simp only [*,$[$ls:simpLemma],*]))
section
variable {P : Program} {w : World} {K : PySem.W.Frag} {mg : Str -> Option Value} {base : Heap}
def spRch : Sp3:=fun ts H Q => ∃ (W : Wk) (ws : List Str),ts = [W.enc,sT ws] /\ WkOk W /\ ∀ (p : Addr) (kvs : List (List Key × T)),H p = none -> Far (W.tasks.map (·.1)) kvs (farW ws W) -> Q (.ref p) (up3 H p (.dcp kvs))
abbrev N_reach : List Str:=["_law_works_here","_law_words","_law_names_here","_law_far","_law_one","_law_other","_law_word","_law_amid"]
theorem sc_reach : FnScope N_reach ["_law_works_here","_law_words"] (defScope (top 28)):=sc_mk
theorem ok_reach {f : Addr} {fd : FuncData} (g : G3 K mg "_law_reach" (top 28) ["_law_works_here","_law_words"] f fd) (B : Bl mg) : Cal P w K mg base 1 "_law_reach" (top 28) ["_law_works_here","_law_words"] spRch:=by
 refine ⟨f,fd,g,?_⟩
 refine fn3 g.fn sc_reach (fun ts H Q h => ?_) (fun cdv A outer s H E ts H3 Q hr h => ?_)
 ·
  obtain ⟨W,ws,rfl,_⟩:=h; rfl
 ·
  have hu30:=Room.u30 hr
  have hu31:=Room.u31 hr
  have hu1:=Room.u1 hr
  obtain ⟨⟨tk,ors,prs,row⟩,ws,rfl,hW,k⟩:=h
  refine ⟨_,(ss3_cons (s3_setC (i:=2) rfl sc_reach.nd (compSc (n0:=(defScope (top 28)).names) (N:=N_reach) (N':=["_law_task"]) (nt:=1) (cap:=[]) rfl rfl (by decide +kernel)) (i3_tup (e3_ix ix3 (v3 0) c3_int)) (fun cl pins s H C0 fp => ⟨(g3_name (i:=0) (show List.Nodup [("_law_task" : Str)] by decide +kernel)),if3_nil,(e3_ix ix3 (v3 0) c3_int)⟩))
    (ss3_cons (s3_set (i:=3) sc_reach.nd e3_dnewP)
    (ss3_cons (s3_for PassesOwn.never rfl (i3_list (v3 2)) (g3_name (i:=4) sc_reach.nd) (ss3_one (s3_for PassesOwn.never rfl (i3_list (v3 2)) (g3_name (i:=5) sc_reach.nd) (ss3_one (s3_dputP hu1 (v3 3) (a3_cons (v3 4) (a3_cons (v3 5) a3_nil)) (e3_cmp (o3_in hu31) (e3_tup (a3_cons (v3 4) (a3_cons (v3 5) a3_nil))) (e3_ix ix3 (v3 0) c3_int) rfl))))))
    (ss3_cons (s3_for PassesOwn.never rfl (i3_tup (e3_ix ix3 (v3 0) c3_int)) (g3_tup (n:=3) rfl (gs3_cons (g3_name (i:=6) sc_reach.nd) (gs3_cons (g3_name (i:=4) sc_reach.nd) (gs3_cons (g3_name (i:=5) sc_reach.nd) gs3_nil)))) (ss3_one (s3_if (t3_cmp (o3_in hu31) (v3 6) (v3 1) rfl) (ss3_cons (s3_dputP hu1 (v3 3) (a3_cons (v3 4) (a3_cons (v3 5) a3_nil)) c3_bl)
      (ss3_one (s3_dputP hu1 (v3 3) (a3_cons (v3 5) (a3_cons (v3 4) a3_nil)) c3_bl))) ss3_nil)))
    (ss3_cons (s3_for PassesOwn.never rfl (i3_list (v3 2)) (g3_name (i:=7) sc_reach.nd) (ss3_one (s3_for PassesOwn.never rfl (i3_list (v3 2)) (g3_name (i:=4) sc_reach.nd) (ss3_one (s3_for PassesOwn.never rfl (i3_list (v3 2)) (g3_name (i:=5) sc_reach.nd) (ss3_one (s3_if (PW3.pt (w3_and (t3_val (e3_dgetP hu1 (v3 3) (a3_cons (v3 4) (a3_cons (v3 7) a3_nil)))) (w3_and1 (t3_val (e3_dgetP hu1 (v3 3) (a3_cons (v3 7) (a3_cons (v3 5) a3_nil))))))) (ss3_one (s3_dputP hu1 (v3 3) (a3_cons (v3 4) (a3_cons (v3 5) a3_nil)) c3_bl)) ss3_nil)))))))
    (ss3_one (s3_ret (v3 3)))))))),?_⟩
  rw [show start3 N_reach [Wk.enc ⟨tk,ors,prs,row⟩,sT ws] = [some (T.tup [T.tup (tk.map tkT),T.tup (ors.map orT),T.tup (prs.map prT),T.tup (row.map T.str)]),some (T.tup (ws.map T.str)),none,none,none,none,none,none] from rfl]
  have hsz : sizeLine = 16777216:=rfl
  have t8 : tk.length <= 8:=hW.t8
  walk_at "rd"
  walk_at "cp"
  refine cIter_pure tkT (fun t => T.str t.1) tk [] trivial (by omega) (fun t ht Q' hq => ?_) (fun pn hpn => ?_)
  ·
   simp only [tkT]
   walk_at "rd"
   try exact hq
  have enm : (tk.map fun t => T.str t.1) = (tk.map (·.1)).map T.str:=by rw [List.map_map]; rfl
  have nnd : (tk.map (·.1)).Nodup:=hW.nd
  have nl : (tk.map (·.1)).length <= 8:=by rw [List.length_map]; exact t8
  have hFW:=fun a b => fw_farW (ws:=ws) hW a b
  have hoo : ∀ o ∈ ors,o.1 ∈ tk.map (·.1) /\ o.2 ∈ tk.map (·.1):=fun o ho => (hW.oo o ho).2
  have hpp : ∀ o ∈ prs,o.2.1 ∈ tk.map (·.1) /\ o.2.2 ∈ tk.map (·.1):=fun o ho => (hW.pp o ho).2.2
  have elk : lkW ws ⟨tk,ors,prs,row⟩ = ors ++ prs.flatMap (lkP ws):=rfl
  rw [elk] at hFW
  rw [show (⟨tk,ors,prs,row⟩ : Wk).tasks = tk from rfl] at k hFW
  generalize farW ws ⟨tk,ors,prs,row⟩ = fin at k hFW
  rw [enm]
  generalize tk.map (·.1) = ns at *
  clear enm elk hW
  walk_at "rd"
  intro p hp
  obtain ⟨npn,hp0⟩:=up3_none hp
  have npn':=Ne.symm npn
  have hst : ∀ o,stillL pn (ns.map T.str) (up3 (up3 H3 pn (.lst (ns.map T.str))) p o):=fun o => .inl (by rw [up3_ne npn',up3_same])
  have hpn1 : ∀ o,up3 (up3 H3 pn (.lst (ns.map T.str))) p o pn = some (.lst (ns.map T.str)):=fun o => by rw [up3_ne npn',up3_same]
  have hpnv : up3 H3 pn (.lst (ns.map T.str)) pn = some (.lst (ns.map T.str)):=up3_same
  generalize hHp : up3 H3 pn (.lst (ns.map T.str)) = HP at *
  rw [hpn1,q_liO]
  clear hpn1
  refine iter_pre T.str ns (fun A σ H => ∃ (v4 v5 v6 v7 : Option T) (kvs : List (List Key × T)),σ = [some (T.tup [T.tup (tk.map tkT),T.tup (ors.map orT),T.tup (prs.map prT),T.tup (row.map T.str)]),some (T.tup (ws.map T.str)),some (.ref pn),some (.ref p),v4,v5,v6,v7] /\ H = up3 HP p (.dcp kvs) /\ Fil A "" [] ns kvs (fun a b => decide ((a,b) ∈ ors))) ⟨none,none,none,none,[],rfl,rfl,⟨fun a b _ h => by simp at h,by simp⟩⟩ ?_ ?_
  rotate_left
  ·
   rintro A x B σ H N e ⟨v4,v5,v6,v7,kvs,rfl,rfl,hF⟩ hN
   refine ⟨hst _,?_⟩
   have hlA : A.length + 1 <= 8:=by
    have:=congrArg List.length e
    simp only [List.length_append,List.length_cons] at this
    omega
   have fin1 : ∀ (v5 v6 v7 : Option T) (kvs : List (List Key × T)),Fil A x ns ns kvs (fun a b => decide ((a,b) ∈ ors)) -> N [some (T.tup [T.tup (tk.map tkT),T.tup (ors.map orT),T.tup (prs.map prT),T.tup (row.map T.str)]),some (T.tup (ws.map T.str)),some (.ref pn),some (.ref p),some (.str x),v5,v6,v7] (up3 HP p (.dcp kvs)):=fun v5 v6 v7 kvs h => hN _ _ ⟨_,v5,v6,v7,kvs,rfl,rfl,h.next⟩
   replace fin1:=Box.mk fin1
   clear hN k hFW e
   walk_at "rd"
   refine iter_pre T.str ns (fun B σ H => ∃ (v5 v6 v7 : Option T) (kvs : List (List Key × T)),σ = [some (T.tup [T.tup (tk.map tkT),T.tup (ors.map orT),T.tup (prs.map prT),T.tup (row.map T.str)]),some (T.tup (ws.map T.str)),some (.ref pn),some (.ref p),some (.str x),v5,v6,v7] /\ H = up3 HP p (.dcp kvs) /\ Fil A x B ns kvs (fun a b => decide ((a,b) ∈ ors))) ⟨v5,v6,v7,kvs,rfl,rfl,⟨fun a b hb h => hF.at' a b hb (by simpa using h),by simpa using hF.len⟩⟩ ?_ ?_
   ·
    rintro σ H ⟨v5,v6,v7,kvs,rfl,rfl,hF'⟩
    exact ⟨hst _,fin1.out v5 v6 v7 kvs hF'⟩
   ·
    rintro B y C σ H N' e' ⟨v5,v6,v7,kvs,rfl,rfl,hF'⟩ hN'
    refine ⟨hst _,?_⟩
    have hm : memB false (T.tup [T.str x,T.str y]) (ors.map orT) = decide ((x,y) ∈ ors):=by
     rw [Bool.eq_iff_iff,decide_eq_true_iff]
     exact memI (f:=orT) orT_inj (x:=(x,y))
    have i1 : pl 20 (T.tup [T.str x,T.str y]) = true:=rfl
    have i2:=pl_ors ors
    have hl2 : kvs.length < sizeLine:=by
     have:=hF'.len
     have h1 : A.length * ns.length <= 8 * 8:=Nat.mul_le_mul (by omega) nl
     have h2 : B.length <= 8:=by
      have:=congrArg List.length e'
      simp only [List.length_append,List.length_cons] at this
      omega
     omega
    have hfin:=hN' _ _ ⟨some (T.str y),v6,v7,_,rfl,rfl,hF'.put y⟩
    replace hfin:=Box.mk hfin
    clear hN' fin1 hF hF' e'
    walk_at "rd"
    exact ⟨by omega,by first | trivial | omega,by first | trivial | omega,by omega,by omega,hfin.out⟩
  ·
   rintro σ H ⟨v4,v5,v6,v7,kvs,rfl,rfl,hF⟩
   refine ⟨hst _,?_⟩
   have hF:=hF.far nl
   walk_at "rd"
   refine iter_pre prT prs (fun A σ H => ∃ (v4 v5 v6 v7 : Option T) (kvs : List (List Key × T)),σ = [some (T.tup [T.tup (tk.map tkT),T.tup (ors.map orT),T.tup (prs.map prT),T.tup (row.map T.str)]),some (T.tup (ws.map T.str)),some (.ref pn),some (.ref p),v4,v5,v6,v7] /\ H = up3 HP p (.dcp kvs) /\ Far ns kvs (fun a b => decide ((a,b) ∈ ors ++ A.flatMap (lkP ws)))) ⟨v4,v5,v6,v7,kvs,rfl,rfl,by simpa using hF⟩ ?_ ?_
   rotate_left
   ·
    rintro A ⟨wd,a,b⟩ B σ H N e ⟨v4,v5,v6,v7,kvs,rfl,rfl,hF⟩ hN
    refine ⟨trivial,?_⟩
    obtain ⟨ha,hb⟩:=hpp (wd,a,b) (by rw [e]; simp)
    dsimp only at ha hb
    have hm : memB false (T.str wd) (ws.map T.str) = decide (wd ∈ ws):=by
     rw [Bool.eq_iff_iff,decide_eq_true_iff]
     exact memI (f:=T.str) str_inj
    have i1 : pl 20 (T.str wd) = true:=rfl
    have i2:=pl_strs ws
    have hl1:=hF.len
    have finN : ∀ kvs,Far ns kvs (fun x y => decide ((x,y) ∈ ors ++ A.flatMap (lkP ws) ++ lkP ws (wd,a,b))) -> N [some (T.tup [T.tup (tk.map tkT),T.tup (ors.map orT),T.tup (prs.map prT),T.tup (row.map T.str)]),some (T.tup (ws.map T.str)),some (.ref pn),some (.ref p),some (.str a),some (.str b),some (.str wd),v7] (up3 HP p (.dcp kvs)):=fun kvs h => hN _ _ ⟨_,_,_,v7,kvs,rfl,rfl,by
     refine h.congr fun x _ y _ => ?_
     rw [List.flatMap_append,List.append_assoc]
     simp⟩
    have l2:=(hF.put ha hb true).len
    have fY : wd ∈ ws -> Far ns (putP (kk b a) (.bl true) (putP (kk a b) (.bl true) kvs)) (fun x y => decide ((x,y) ∈ ors ++ A.flatMap (lkP ws) ++ lkP ws (wd,a,b))):=fun hw => by
     refine ((hF.put ha hb true).put hb ha true).congr fun x _ y _ => ?_
     have e1 : lkP ws (wd,a,b) = [(a,b),(b,a)]:=by unfold lkP; simp [hw]
     rw [e1,Bool.eq_iff_iff]
     by_cases h1 : x = b /\ y = a
     ·
      obtain ⟨rfl,rfl⟩:=h1; simp
     ·
      by_cases h2 : x = a /\ y = b
      ·
       obtain ⟨rfl,rfl⟩:=h2; simp
      ·
       simp [h1,h2]
    have fN : wd ∉ ws -> Far ns kvs (fun x y => decide ((x,y) ∈ ors ++ A.flatMap (lkP ws) ++ lkP ws (wd,a,b))):=fun hw => by
     refine hF.congr fun x _ y _ => ?_
     have e1 : lkP ws (wd,a,b) = []:=by unfold lkP; simp [hw]
     rw [e1,List.append_nil]
    have nY:=Box.mk fun hw => finN _ (fY hw)
    have nN:=Box.mk fun hw => finN _ (fN hw)
    clear hN finN fY fN hF e k hFW ha hb
    unfold kk at nY l2
    simp only [prT]
    walk_at "rd"
    refine ⟨trivial,trivial,trivial,?_⟩
    by_cases hw : wd ∈ ws
    ·
     simp only [hw,decide_true,if_true]
     exact ⟨by omega,by omega,by omega,by omega,nY.out hw⟩
    ·
     simp only [hw,decide_false,Bool.false_eq_true,if_false]
     exact nN.out hw
   ·
    rintro σ H ⟨v4,v5,v6,v7,kvs,rfl,rfl,hF⟩
    refine ⟨trivial,?_⟩
    clear hpp hoo
    generalize hf0 : (fun a b => decide ((a,b) ∈ ors ++ prs.flatMap (lkP ws))) = f0 at hF hFW
    walk_at "rd"
    refine iter_pre T.str ns (fun A σ H => ∃ (v4 v5 v6 v7 : Option T) (kvs : List (List Key × T)),σ = [some (T.tup [T.tup (tk.map tkT),T.tup (ors.map orT),T.tup (prs.map prT),T.tup (row.map T.str)]),some (T.tup (ws.map T.str)),some (.ref pn),some (.ref p),v4,v5,v6,v7] /\ H = up3 HP p (.dcp kvs) /\ Far ns kvs (fw f0 A)) ⟨v4,v5,v6,v7,kvs,rfl,rfl,hF⟩ ?_ ?_
    ·
     rintro σ H ⟨v4,v5,v6,v7,kvs,rfl,rfl,hF⟩
     refine ⟨hst _,?_⟩
     have hk:=k p kvs hp0 (hF.congr fun a _ b _ => hFW a b)
     walk_at "rd"
     refine Fin3.of (fun a o e => ?_) hk
     subst hHp
     by_cases h : a = p
     ·
      subst h; rw [up3_same] at e ⊢; exact e
     ·
      rw [up3_ne h] at e ⊢
      rw [up3_ne (ne3n e hpn)]
      exact e
    ·
     rintro A m B σ H N e ⟨v4,v5,v6,v7,kvs,rfl,rfl,hF⟩ hN
     refine ⟨hst _,?_⟩
     have hmn : m ∈ ns:=by rw [e]; simp
     have fin2 : ∀ (v4 v5 v6 : Option T) (kvs : List (List Key × T)),Far ns kvs (fwS (fw f0 A) m) -> N [some (T.tup [T.tup (tk.map tkT),T.tup (ors.map orT),T.tup (prs.map prT),T.tup (row.map T.str)]),some (T.tup (ws.map T.str)),some (.ref pn),some (.ref p),v4,v5,v6,some (.str m)] (up3 HP p (.dcp kvs)):=fun v4 v5 v6 kvs h => hN _ _ ⟨v4,v5,v6,_,kvs,rfl,rfl,by rw [fw_snoc]; exact h⟩
     replace fin2:=Box.mk fin2
     generalize fw f0 A = f at *
     clear hN k hFW hf0 e
     walk_at "rd"
     refine iter_pre T.str ns (fun A σ H => ∃ (v4 v5 v6 : Option T) (kvs : List (List Key × T)),σ = [some (T.tup [T.tup (tk.map tkT),T.tup (ors.map orT),T.tup (prs.map prT),T.tup (row.map T.str)]),some (T.tup (ws.map T.str)),some (.ref pn),some (.ref p),v4,v5,v6,some (.str m)] /\ H = up3 HP p (.dcp kvs) /\ Far ns kvs (fwM f m A "" [])) ⟨v4,v5,v6,kvs,rfl,rfl,hF.congr fun a _ b _ => (fwM_0 f m "" a b).symm⟩ ?_ ?_
     ·
      rintro σ H ⟨v4,v5,v6,kvs,rfl,rfl,hF⟩
      exact ⟨hst _,fin2.out v4 v5 v6 kvs (hF.congr fun a ha b _ => fwM_end f m "" ha b)⟩
     ·
      rintro A x B σ H N e ⟨v4,v5,v6,kvs,rfl,rfl,hF⟩ hN
      refine ⟨hst _,?_⟩
      have hxn : x ∈ ns:=by rw [e]; simp
      have fin3 : ∀ (v5 v6 : Option T) (kvs : List (List Key × T)),Far ns kvs (fwM f m A x ns) -> N [some (T.tup [T.tup (tk.map tkT),T.tup (ors.map orT),T.tup (prs.map prT),T.tup (row.map T.str)]),some (T.tup (ws.map T.str)),some (.ref pn),some (.ref p),some (.str x),v5,v6,some (.str m)] (up3 HP p (.dcp kvs)):=fun v5 v6 kvs h => hN _ _ ⟨_,v5,v6,kvs,rfl,rfl,h.congr fun a _ b hb => fwM_next f m A x "" a hb⟩
      replace fin3:=Box.mk fin3
      clear hN fin2 e
      walk_at "rd"
      refine iter_pre T.str ns (fun B σ H => ∃ (v5 v6 : Option T) (kvs : List (List Key × T)),σ = [some (T.tup [T.tup (tk.map tkT),T.tup (ors.map orT),T.tup (prs.map prT),T.tup (row.map T.str)]),some (T.tup (ws.map T.str)),some (.ref pn),some (.ref p),some (.str x),v5,v6,some (.str m)] /\ H = up3 HP p (.dcp kvs) /\ Far ns kvs (fwM f m A x B)) ⟨v5,v6,kvs,rfl,rfl,hF.congr fun a _ b _ => by unfold fwM; simp⟩ ?_ ?_
      ·
       rintro σ H ⟨v5,v6,kvs,rfl,rfl,hF⟩
       exact ⟨hst _,fin3.out v5 v6 kvs hF⟩
      ·
       rintro B y C σ H N e ⟨v5,v6,kvs,rfl,rfl,hF⟩ hN
       refine ⟨hst _,?_⟩
       have hyn : y ∈ ns:=by rw [e]; simp
       have g1:=hF.at' x hxn m hmn
       have g2:=hF.at' m hmn y hyn
       rw [fwM_l] at g1
       rw [fwM_r] at g2
       have hl1:=hF.len
       have nY:=Box.mk fun (h : f x m = true /\ f m y = true) => hN [some (T.tup [T.tup (tk.map tkT),T.tup (ors.map orT),T.tup (prs.map prT),T.tup (row.map T.str)]),some (T.tup (ws.map T.str)),some (.ref pn),some (.ref p),some (.str x),some (.str y),v6,some (.str m)] _ ⟨_,v6,_,rfl,rfl,(hF.put hxn hyn true).congr fun a _ b _ => fwM_put f m A x B y h a b⟩
       have nN:=Box.mk fun (h : ¬ (f x m = true /\ f m y = true)) => hN [some (T.tup [T.tup (tk.map tkT),T.tup (ors.map orT),T.tup (prs.map prT),T.tup (row.map T.str)]),some (T.tup (ws.map T.str)),some (.ref pn),some (.ref p),some (.str x),some (.str y),v6,some (.str m)] _ ⟨_,v6,kvs,rfl,rfl,hF.congr fun a _ b _ => fwM_skip f m A x B y h a b⟩
       clear hN fin3 hF e
       unfold kk at nY g1 g2
       walk_at "rd"
       refine ⟨by omega,?_⟩
       cases e1 : f x m
       ·
        simp only [Bool.false_eq_true,if_false]
        exact nN.out (by simp [e1])
       ·
        simp only [if_true]
        refine ⟨by omega,?_⟩
        cases e2 : f m y
        ·
         simp only [Bool.false_eq_true,if_false]
         exact nN.out (by simp [e2])
        ·
         simp only [if_true]
         exact ⟨by omega,by omega,nY.out ⟨e1,e2⟩⟩
end
end M
namespace M
open PySem PySem.Spec PyProof.Rows L2 L3
end M
namespace M
open PySem PySem.Spec PyProof.Rows L2 L3
end M
namespace M
open PySem PySem.Spec PyProof.Rows L2 L3
structure Hs (H : Hp3) (fs : List (Addr × O3)) : Prop where
 at' : ∀ q ∈ fs,H q.1 = some q.2
 nd : (fs.map (·.1)).Nodup
theorem Hs.nil {H : Hp3} : Hs H []:=⟨fun _ h => (nomatch h),List.nodup_nil⟩
theorem Hs.hd {H : Hp3} {p : Addr} {o : O3} {fs : List (Addr × O3)} (w : Hs H ((p,o) :: fs)) : H p = some o:=w.at' (p,o) List.mem_cons_self
theorem Hs.tl {H : Hp3} {p : Addr × O3} {fs : List (Addr × O3)} (w : Hs H (p :: fs)) : Hs H fs:=⟨fun q hq => w.at' q (List.mem_cons_of_mem _ hq),(List.nodup_cons.mp w.nd).2⟩
theorem Hs.new {H : Hp3} {fs : List (Addr × O3)} (w : Hs H fs) {p : Addr} {o : O3} (hp : H p = none) : Hs (up3 H p o) ((p,o) :: fs):=by
 have ne : ∀ q ∈ fs,q.1 ≠ p:=fun q hq e => by have:=w.at' q hq; rw [e,hp] at this; cases this
 refine ⟨fun q hq => ?_,?_⟩
 ·
  rcases List.mem_cons.mp hq with rfl | hq
  ·
   exact up3_same
  ·
   rw [up3_ne (ne q hq)]; exact w.at' q hq
 ·
  rw [List.map_cons,List.nodup_cons]
  refine ⟨fun h => ?_,w.nd⟩
  obtain ⟨q,hq,e⟩:=List.mem_map.mp h
  exact ne q hq e
theorem Hs.set {H : Hp3} {fs : List (Addr × O3)} {p : Addr} {o : O3} (w : Hs H ((p,o) :: fs)) (o' : O3) : Hs (up3 H p o') ((p,o') :: fs):=by
 have nd:=w.nd
 rw [List.map_cons,List.nodup_cons] at nd
 refine ⟨fun q hq => ?_,by rw [List.map_cons,List.nodup_cons]; exact nd⟩
 rcases List.mem_cons.mp hq with rfl | hq
 ·
  exact up3_same
 ·
  have ne : q.1 ≠ p:=fun e => nd.1 (List.mem_map.mpr ⟨q,hq,e⟩)
  rw [up3_ne ne]; exact w.at' q (List.mem_cons_of_mem _ hq)
theorem Hs.sub {H : Hp3} {fs gs : List (Addr × O3)} (w : Hs H fs) (h : gs.Sublist fs) : Hs H gs:=⟨fun q hq => w.at' q (h.subset hq),List.Nodup.sublist (h.map _) w.nd⟩
theorem Hs.of {H : Hp3} {p : Addr} {o : O3} (h : H p = some o) : Hs H [(p,o)]:=⟨fun q hq => by rw [List.mem_singleton.mp hq]; exact h,by simp⟩
theorem Hs.le {H H' : Hp3} {fs : List (Addr × O3)} (w : Hs H fs) (h : Sub3 H H') : Hs H' fs:=⟨fun q hq => h _ _ (w.at' q hq),w.nd⟩
end M
namespace L3
open PySem PySem.Spec PyProof.Rows L2
section
variable {X : Cx} {elts : List Expr} {x1 : Nat} {tpos pos p : Pos} {e : Expr}
def enTq (x : T) (H : Hp3) (R : List T -> (Hp3 -> Prop) -> Hp3 -> Prop) : Prop:=match x with
 | .tup ts => R (enum0 0 ts) still0 H
 | _ => False
def iEnumT3 (te : TE3) : TI3:=fun σ H R => te σ H fun x H1 => enTq x H1 R
theorem q_iEnumT (te : TE3) {σ : St3} {H : Hp3} {R : List T -> (Hp3 -> Prop) -> Hp3 -> Prop} : iEnumT3 te σ H R = te σ H fun x H1 => enTq x H1 R:=rfl
theorem q_enTq (ts : List T) {H : Hp3} {R : List T -> (Hp3 -> Prop) -> Hp3 -> Prop} : enTq (.tup ts) H R = R (enum0 0 ts) still0 H:=rfl
end
section
variable {X : Cx}
def anH (o : Option O3) (H : Hp3) (Q : VK3) : Prop:=match o with
 | some (.lst xs) => oq (bools3 xs) fun bs => Q (.bl (bs.any id)) H
 | some (.rol xs) => oq (bools3 xs) fun bs => Q (.bl (bs.any id)) H
 | _ => False
def r3Any : List T -> Hp3 -> VK3 -> Prop:=fun ts H Q => match ts with
 | [.ref a] => anH (H a) H Q
 | _ => False
theorem q_any (a : Addr) {H : Hp3} {Q : VK3} : r3Any [.ref a] H Q = anH (H a) H Q:=rfl
theorem q_anH (xs : List T) {H : Hp3} {Q : VK3} : anH (some (.lst xs)) H Q = oq (bools3 xs) fun bs => Q (.bl (bs.any id)) H:=rfl
theorem any_range (bs : List Bool) : (List.range bs.length).any (fun i => bs.getD i true) = bs.any id:=by
 rw [Bool.eq_iff_iff,List.any_eq_true,List.any_eq_true]
 constructor
 ·
  rintro ⟨i,hi,h⟩
  have hi':=List.mem_range.mp hi
  refine ⟨bs[i],List.getElem_mem hi',?_⟩
  simpa [List.getD,hi'] using h
 ·
  rintro ⟨b,hb,h⟩
  obtain ⟨i,hi,rfl⟩:=List.mem_iff_getElem.mp hb
  refine ⟨i,List.mem_range.mpr hi,?_⟩
  simpa [List.getD,hi] using h
theorem c3_any (hc : X.calm = true) : CallR3 X (.builtin "any") r3Any:=by
 intro pins s σ H xs us Q I rv h
 obtain ⟨ts,H3,Q3,r,sh,h,k⟩:=h
 match ts,h,r with
 | [.ref a],h,r =>
  obtain ⟨v,rfl,rv'⟩:=r.one'
  obtain ⟨u,rfl,ru⟩:=vals1 rv
  rw [rv'.ref] at ru
  cases ru
  have main : ∀ {ls : List T} {ys : List V},SqL X.K H a ys -> Reps X.K H ls ys -> oq (bools3 ls) (fun bs => Q3 (.bl (bs.any id)) H3) -> wpAny (model X.prog X.w) X.A (call (.builtin "any") [.ref a]) (EP X pins σ Q) X.xe s:=by
   intro ls ys sq rs q
   cases e : bools3 ls with
   | none => rw [e] at q; exact q.elim
   | some bs =>
    rw [e] at q
    obtain ⟨its,rvs,hl,_⟩:=I.list sq
    have hi:=bools3_vals e rs rvs
    subst hi
    have hlI : a ≠ s.heap.objs.size:=fun z => by
     obtain ⟨o,n,eo,_⟩:=hl
     have:=Heap.lt_size eo
     rw [z] at this
     exact Nat.lt_irrefl _ this
    refine call_any_walk (wpAny_pyIter_list hl.isList ?_)
    refine ⟨s.heap.objs.size,_,_,_,_,_,fun i => bs.getD i true,rfl,Walks.list (A:=X.A.in1) (I.ok.hd hc) s.heap.objs.size a hlI (bs.map Value.bool).toArray,⟨⟨_,Heap.get?_push_size _ rfl,rfl,rfl⟩,hl.isList.push _⟩,fun i v s' Q' E' hv hq => ?_,fun h' tk hk => ?_⟩
    ·
     have hv' : (bs.map Value.bool)[i]? = some v:=by simpa using hv
     rw [List.getElem?_map] at hv'
     cases eb : bs[i]? with
     | none => rw [eb] at hv'; cases hv'
     | some b =>
      rw [eb] at hv'
      cases hv'
      have : bs.getD i true = b:=by simp [List.getD,eb]
      dsimp only at hq
      rw [this] at hq
      exact wpAny_truthy_bool hq
    ·
     have hn : (bs.map Value.bool).toArray.size = bs.length:=by simp
     rw [hn,any_range]
     refine ⟨.bl (bs.any id),H,I.kept fun b o e => hk b o (fun z => ?_) (Heap.get?_push_of_some _ e),rfl,k _ _ _ _ .refl sh .ofBl q⟩
     have:=Heap.lt_size e
     rw [List.mem_singleton.mp z] at this
     exact Nat.lt_irrefl _ this
  have h' : anH (H3 a) H3 Q3:=h
  cases eo : H3 a with
  | none => rw [eo] at h'; exact h'.elim
  | some o =>
   rw [eo] at h'
   cases o with
   | lst ls =>
    obtain ⟨ys,sq,rs⟩:=sh.sqL (.inl eo)
    exact main sq rs h'
   | rol ls =>
    obtain ⟨ys,sq,rs⟩:=sh.sqL (.inr eo)
    exact main sq rs h'
   | _ => exact h'.elim
def r3Max2 : List T -> Hp3 -> VK3 -> Prop:=fun ts H Q => match ts with
 | [.int i,.int j] => Q (.int (if j > i then j else i)) H
 | _ => False
def r3Min2 : List T -> Hp3 -> VK3 -> Prop:=fun ts H Q => match ts with
 | [.int i,.int j] => Q (.int (if j < i then j else i)) H
 | _ => False
theorem q_max2 (i j : Int) {H : Hp3} {Q : VK3} : r3Max2 [.int i,.int j] H Q = Q (.int (if j > i then j else i)) H:=rfl
theorem q_min2 (i j : Int) {H : Hp3} {Q : VK3} : r3Min2 [.int i,.int j] H Q = Q (.int (if j < i then j else i)) H:=rfl
theorem c3_max2 (hc : X.calm = true) : CallR3 X (.builtin "max") r3Max2:=by
 intro pins s σ H xs us Q I rv h
 obtain ⟨ts,H3,Q3,r,sh,h,k⟩:=h
 match ts,h,r with
 | [.int i,.int j],h,r =>
  obtain ⟨v,v2,rfl,r1,r2⟩:=r.two'
  obtain ⟨u1,u2,rfl,q1,q2⟩:=vals2 rv
  rw [r1.int] at q1
  rw [r2.int] at q2
  obtain ⟨t1,rfl⟩:=q1
  obtain ⟨t2,rfl⟩:=q2
  refine max_two_ints (I.ok.hd hc) fun h' tk hk => ?_
  refine ⟨.int (if j > i then j else i),H,I.kept hk,?_,k _ _ _ _ .refl sh .ofInt h⟩
  by_cases z : j > i
  ·
   rw [if_pos z,if_pos z]; exact ⟨_,rfl⟩
  ·
   rw [if_neg z,if_neg z]; exact ⟨_,rfl⟩
theorem c3_min2 (hc : X.calm = true) : CallR3 X (.builtin "min") r3Min2:=by
 intro pins s σ H xs us Q I rv h
 obtain ⟨ts,H3,Q3,r,sh,h,k⟩:=h
 match ts,h,r with
 | [.int i,.int j],h,r =>
  obtain ⟨v,v2,rfl,r1,r2⟩:=r.two'
  obtain ⟨u1,u2,rfl,q1,q2⟩:=vals2 rv
  rw [r1.int] at q1
  rw [r2.int] at q2
  obtain ⟨t1,rfl⟩:=q1
  obtain ⟨t2,rfl⟩:=q2
  refine min_two_ints (I.ok.hd hc) fun h' tk hk => ?_
  refine ⟨.int (if j < i then j else i),H,I.kept hk,?_,k _ _ _ _ .refl sh .ofInt h⟩
  by_cases z : j < i
  ·
   rw [if_pos z,if_pos z]; exact ⟨_,rfl⟩
  ·
   rw [if_neg z,if_neg z]; exact ⟨_,rfl⟩
theorem bt_max : bootBuiltins "max" = some (.builtin "max"):=by decide +kernel
theorem bt_min : bootBuiltins "min" = some (.builtin "min"):=by decide +kernel
end
end L3
namespace M
open PySem PySem.Spec PyProof.Rows L2 L3
end M
namespace M
open PySem PySem.Spec PyProof.Rows L2 L3
theorem WkOk.order {tk : List (Str × Int × List Str)} {ors : List (Str × Str)} {prs : List (Str × Str × Str)} {row : List Str} (h : WkOk ⟨tk,ors,prs,row⟩) {a b : Str} (ha : a ∈ tk.map (·.1)) (hb : b ∈ tk.map (·.1)) (hab : a ≠ b) (hn : (a,b) ∉ ors) (hl : ors.length < 28) : WkOk ⟨tk,ors ++ [(a,b)],prs,row⟩:=by
 obtain ⟨h1,h2,h3,h4,h5,h6,h7,h8,h9,h10,h11,h12,h13⟩:=h
 refine ⟨h1,h2,h3,h4,?_,nd_snoc h6 hn,fun o ho => ?_,h8,h9,h10,h11,h12,h13⟩
 ·
  show (ors ++ [(a,b)]).length <= 28
  rw [List.length_append,List.length_singleton]
  omega
 ·
  rcases List.mem_append.mp ho with ho | ho
  ·
   exact h7 o ho
  ·
   rw [List.mem_singleton.mp ho]
   exact ⟨hab,ha,hb⟩
end M
namespace M
open PySem PySem.Spec PyProof.Rows L2 L3
theorem WkOk.sub {tk : List (Str × Int × List Str)} {ors : List (Str × Str)} {prs qrs : List (Str × Str × Str)} {row : List Str} (h : WkOk ⟨tk,ors,prs,row⟩) (s : qrs.Sublist prs) : WkOk ⟨tk,ors,qrs,row⟩:=by
 obtain ⟨h1,h2,h3,h4,h5,h6,h7,h8,h9,h10,h11,h12,h13⟩:=h
 exact ⟨h1,h2,h3,h4,h5,h6,h7,Nat.le_trans s.length_le h8,List.Nodup.sublist s h9,fun p hp => h10 p (s.subset hp),h11,h12,h13⟩
noncomputable def bare (t : Str × Int × List Str) : Str × Int × List Str:=(t.1,t.2.1,[])
theorem bare_names (tk : List (Str × Int × List Str)) : (tk.map bare).map (·.1) = tk.map (·.1):=by rw [List.map_map]; rfl
theorem WkOk.bare {tk : List (Str × Int × List Str)} {ors : List (Str × Str)} {prs : List (Str × Str × Str)} {row : List Str} (h : WkOk ⟨tk,ors,prs,row⟩) : WkOk ⟨tk.map bare,ors,prs,row⟩:=by
 obtain ⟨h1,h2,h3,h4,h5,h6,h7,h8,h9,h10,h11,h12,h13⟩:=h
 have e:=bare_names tk
 refine ⟨by show 1 <= (tk.map M.bare).length; rw [List.length_map]; exact h1,by show (tk.map M.bare).length <= 8; rw [List.length_map]; exact h2,fun t ht => ?_,by show ((tk.map M.bare).map (·.1)).Nodup; rw [e]; exact h4,h5,h6,fun o ho => ?_,h8,h9,fun p hp => ?_,h11,h12,h13⟩
 ·
  obtain ⟨u,hu,rfl⟩:=List.mem_map.mp ht
  obtain ⟨a,b,c,_,_⟩:=h3 u hu
  exact ⟨a,b,c,Nms.nil,by show 0 <= 4; decide⟩
 ·
  show _ /\ o.1 ∈ (tk.map M.bare).map (·.1) /\ o.2 ∈ (tk.map M.bare).map (·.1)
  rw [e]; exact h7 o ho
 ·
  show _ /\ _ /\ p.2.1 ∈ (tk.map M.bare).map (·.1) /\ p.2.2 ∈ (tk.map M.bare).map (·.1)
  rw [e]; exact h10 p hp
end M
namespace M
open PySem PySem.Spec PyProof.Rows L2 L3
local macro_rules | `(tactic| walk_at "cp") => `(tactic| try dsimp only [cap3,List.replicate,List.map_cons,List.map_nil,List.cons_append,List.nil_append,List.getElem?_cons_zero,List.getElem?_cons_succ,Option.getD_some])
local macro_rules | `(tactic| walk_at "nx") => `(tactic| (obtain ⟨e⟩:=‹Shut (_ = _)›; subst e; try dsimp only))
local macro_rules | `(tactic| walk_at "rd") => do
 let ls <- ((nm0 ++ " q_dgP q_dgPH q_dpP q_dpPH tDGetP3 sDPutP3 tDNew3 tDNewP3 tDisp1 q_d1q tDIn3 q_diq q_diH q_iSeqV q_iEnumT q_enTq q_any q_anH q_max2 q_min2").splitOn " ").toArray.mapM fun n => let i:=Lean.mkIdent n.toName; `(Lean.Parser.Tactic.simpLemma| $i:ident)
 `(tactic| ((try dsimp only [$[$ls:simpLemma],*]); try simp only [*,$[$ls:simpLemma],*]))
section
variable {P : Program} {w : World} {K : PySem.W.Frag} {mg : Str -> Option Value} {base : Heap}
def spAt : Sp3:=fun ts H Q => ∃ (kd : Str) (a : Addr) (tks : List (Str × Int × List Str)),ts = [.str kd,.ref a] /\ H a = some (.lst (tks.map tkT)) /\ tks.length <= 100 /\ ∀ b : Bool,Q (.bl b) H
def spSnd : Sp3:=fun ts H Q => ∃ W : Wk,ts = [W.enc] /\ WkOk W /\ ∀ W' : Wk,WkOk W' -> W'.tasks.length = W.tasks.length -> Q W'.enc H
abbrev N_at : List Str:=["_law_kind","_law_tasks_here"]
theorem sc_at : FnScope N_at N_at (defScope (top 29)):=sc_mk
theorem ok_at {f : Addr} {fd : FuncData} (g : G3 K mg "_law_at" (top 29) N_at f fd) (B : Bl mg) : Cal P w K mg base 1 "_law_at" (top 29) N_at spAt:=by
 refine ⟨f,fd,g,?_⟩
 refine fn3 g.fn sc_at (fun ts H Q h => ?_) (fun cdv A outer s H E ts H3 Q hr h => ?_)
 ·
  obtain ⟨kd,a,tks,rfl,_⟩:=h; rfl
 ·
  have hu30:=Room.u30 hr
  have hu31:=Room.u31 hr
  have hu1:=Room.u1 hr
  obtain ⟨kd,a,tks,rfl,ha,hl,k⟩:=h
  refine ⟨_,(ss3_one (s3_ret (e3_callB (c3_all rfl) rfl B.all_ bt_all (a3_cons (e3_comp rfl (compSc (n0:=(defScope (top 29)).names) (N:=N_at) (N':=["_law_name","_law_long","_law_kinds","_law_kind"]) (nt:=3) (cap:=[0]) rfl rfl (by decide +kernel)) (i3_list (v3 1)) (fun cl pins s H C0 fp => ⟨(g3_tup (n:=3) rfl (gs3_cons (g3_name (i:=0) (show List.Nodup [("_law_name" : Str),("_law_long" : Str),("_law_kinds" : Str),("_law_kind" : Str)] by decide +kernel)) (gs3_cons (g3_name (i:=1) (show List.Nodup [("_law_name" : Str),("_law_long" : Str),("_law_kinds" : Str),("_law_kind" : Str)] by decide +kernel)) (gs3_cons (g3_name (i:=2) (show List.Nodup [("_law_name" : Str),("_law_long" : Str),("_law_kinds" : Str),("_law_kind" : Str)] by decide +kernel)) gs3_nil)))),if3_nil,(e3_or (e3_cmp (o3_eq hu30) (v3 2) (e3_tup a3_nil)) (e3_one (e3_cmp (o3_in hu31) (v3 3) (v3 2) rfl)))⟩)) a3_nil)))),?_⟩
  rw [show start3 N_at [T.str kd,T.ref a] = [some (T.str kd),some (T.ref a)] from rfl]
  have hsz : sizeLine = 16777216:=rfl
  walk_at "rd"
  walk_at "cp"
  refine cIter_pre tkT tks (fun A ys σ H => H = H3 /\ ys.length = A.length /\ (∃ bs : List Bool,ys = bs.map T.bl) /\ ∃ v0 v1 v2 : Option T,σ = [v0,v1,v2,some (.str kd)]) ⟨rfl,rfl,⟨[],rfl⟩,none,none,none,rfl⟩ ?_ ?_
  ·
   rintro ys σ H ⟨rfl,hy,⟨bs,rfl⟩,v0,v1,v2,rfl⟩
   refine ⟨.inl ha,by omega,fun p hp => ?_⟩
   rw [bools3_map,q_oq]
   exact Fin3.of (Sub3.new hp) (k _)
  ·
   rintro A ⟨nm,len,ks⟩ B ys σ H N e ⟨rfl,hy,⟨bs,rfl⟩,v0,v1,v2,rfl⟩ hN
   have hA : A.length <= 100:=by
    have:=congrArg List.length e
    simp only [List.length_append,List.length_cons] at this
    omega
   refine ⟨.inl ha,?_⟩
   have fin : Box (∀ b : Bool,N (bs.map T.bl ++ [T.bl b]) [some (.str nm),some (.int len),some (T.tup (ks.map T.str)),some (.str kd)] H):=⟨fun b => hN _ _ _ ⟨rfl,by simp only [List.length_append,List.length_singleton]; omega,⟨bs ++ [b],by simp⟩,_,_,_,rfl⟩⟩
   have i1 : pl 20 (T.str kd) = true:=rfl
   have i2:=pl_strs ks
   have i3 : ([] : List T).all (pl 20) = true:=rfl
   have hbl : bs.length <= 100:=by rw [List.length_map] at hy; omega
   clear hN k e hy
   simp only [tkT,sT]
   generalize memB false (T.str kd) (ks.map T.str) = b0
   walk_at "rd"
   refine ⟨trivial,by omega,trivial,trivial,?_⟩
   split
   ·
    exact ⟨by first | trivial | omega,fin.out _⟩
   ·
    exact ⟨trivial,trivial,by first | trivial | omega,fin.out _⟩
end
end M
namespace M
open PySem PySem.Spec PyProof.Rows L2 L3
theorem Wt.hd {c p : Addr} {H0 H : Hp3} {o : O3} {fs : List (Addr × O3)} (w : Wt c H0 H ((p,o) :: fs)) : H p = some o:=(w.at' (p,o) List.mem_cons_self).1
theorem Wt.tl {c : Addr} {q : Addr × O3} {H0 H : Hp3} {fs : List (Addr × O3)} (w : Wt c H0 H (q :: fs)) : Wt c H0 H fs:=⟨w.cl,w.kp,fun p hp => w.at' p (List.mem_cons_of_mem _ hp)⟩
theorem Wt.set {c p : Addr} {H0 H : Hp3} {o : O3} {fs : List (Addr × O3)} (w : Wt c H0 H ((p,o) :: fs)) (hp0 : H0 p = none) (hd : ∀ q ∈ fs,q.1 ≠ p) (o' : O3) : Wt c H0 (up3 H p o') ((p,o') :: fs) :=
 have hc:=(w.at' (p,o) List.mem_cons_self).2
 ⟨w.cl.new hc,w.kp.at hp0,fun q hq => by
  rcases List.mem_cons.mp hq with rfl | hq
  ·
   exact ⟨up3_same,hc⟩
  ·
   exact ⟨by rw [up3_ne (hd q hq)]; exact (w.at' q (List.mem_cons_of_mem _ hq)).1,(w.at' q (List.mem_cons_of_mem _ hq)).2⟩⟩
theorem Wt.fresh {c p : Addr} {H0 H : Hp3} {fs : List (Addr × O3)} (w : Wt c H0 H fs) (hp : H p = none) : H0 p = none:=by
 cases e : H0 p with
 | none => rfl
 | some o => rw [w.kp p o e (w.cl.ne hp)] at hp; cases hp
end M
set_option maxHeartbeats 1000000
namespace L3
open PySem PySem.Spec PyProof.Rows L2
section
variable {X : Cx} {pins : List (Addr × Obj)} {σ : L2.St} {H : Hp} {s : Shared}
theorem sum_le {c : Nat} : ∀ {xs : List Nat},(∀ x ∈ xs,x <= c) -> xs.sum <= xs.length * c
 | [],_ => by simp
 | x :: xs,h => by
  have a:=h x List.mem_cons_self
  have b:=sum_le (xs:=xs) fun y hy => h y (List.mem_cons_of_mem _ hy)
  simp only [List.sum_cons,List.length_cons,Nat.succ_mul]
  omega
end
section
variable {X : Cx}
def rpH (o : Option O3) (k : Int) (H : Hp3) (Q : VK3) : Prop:=match o with
 | some (.lst xs) => (-(2 ^ 63) <= k /\ k < 2 ^ 63 /\ xs.length * k.toNat <= sizeLine) /\ ∀ p,H p = none -> Q (.ref p) (up3 H p (.lst (List.replicate k.toNat xs).flatten))
 | _ => False
def rRep3 : R3:=fun x y H Q => match x,y with
 | .ref a,.int k => rpH (H a) k H Q
 | _,_ => False
theorem q_rep (a : Addr) (k : Int) (H : Hp3) (Q : VK3) : rRep3 (.ref a) (.int k) H Q = rpH (H a) k H Q:=rfl
theorem q_rpH (xs : List T) (k : Int) (H : Hp3) (Q : VK3) : rpH (some (.lst xs)) k H Q = ((-(2 ^ 63) <= k /\ k < 2 ^ 63 /\ xs.length * k.toNat <= sizeLine) /\ ∀ p,H p = none -> Q (.ref p) (up3 H p (.lst (List.replicate k.toNat xs).flatten))):=rfl
theorem Reps.rep {K : PySem.W.Frag} {H : Hp} {ts : List T} {vs : List V} (r : Reps K H ts vs) : ∀ k : Nat,Reps K H (List.replicate k ts).flatten (List.replicate k vs).flatten
 | 0 => .nil
 | k + 1 => by rw [List.replicate_succ,List.replicate_succ,List.flatten_cons,List.flatten_cons]; exact r.append (Reps.rep r k)
theorem o3_rep : OpR3 X (binaryOp .Mult) rRep3:=by
 refine OpR.imp op_rep ?_
 rintro x y H Q ⟨tx,ty,H3,Q3,rx,ry,sh,h,k⟩
 cases tx with
 | ref a =>
  cases ty with
  | int n =>
   rw [q_rep] at h
   cases e : H3 a with
   | none => rw [e] at h; exact h.elim
   | some o =>
    rw [e] at h
    cases o with
    | lst xs =>
     rw [q_rpH] at h
     obtain ⟨vs,g1,r1⟩:=sh a _ e
     obtain ⟨⟨h1,h2,h3⟩,h'⟩:=h
     refine ⟨a,n,vs,rx.ref,ry.int,g1,h1,h2,by rw [<- r1.length]; exact h3,fun p hp => ?_⟩
     exact k _ _ _ _ (upd_tupLe hp) (sh.newLst hp (r1.rep n.toNat)) .ofRef (h' p (sh.fresh hp))
    | _ => exact h.elim
  | _ => exact h.elim
 | _ => exact h.elim
end
end L3
set_option maxHeartbeats 4000000
namespace L3
open PySem PySem.Spec PyProof.Rows L2
section
variable {prog : Program} {w : World} {A : Around} {E : Value -> Shared -> Prop} {s : Shared}
end
end L3
namespace L3
open PySem PySem.Spec PyProof.Rows L2
section
variable {X : Cx} {tg e : Expr} {p p1 p2 pos pos' : Pos}
variable {o : Expr} {to : TE3} {name : Str} {apos cpos : Pos} {m : T -> List T -> Hp3 -> VK3 -> Prop} {Ty id : String}
end
end L3
namespace L3
open PySem PySem.Spec PyProof.Rows L2
section
variable {X : Cx}
def rInsert : V -> List V -> Hp -> VK -> Prop:=fun x vs H Q => ∃ l xs i y,x = .ref l /\ vs = [.int i,y] /\ H l = some (.lst xs) /\ 0 <= i /\ i <= xs.length /\ xs.length < sizeLine /\ Q .non (upd H l (.lst (xs.take i.toNat ++ y :: xs.drop i.toNat)))
theorem mt_insert : MtR X "list.insert" rInsert:=by
 intro pins s σ H x vs v us Q I rx rv h
 obtain ⟨l,xs,i,y,rfl,rfl,hH,h0,h1,hz,q⟩:=h
 cases rx
 obtain ⟨u,u',rfl,ru,ru'⟩:=vals2 rv
 obtain ⟨t,rfl⟩:=ru
 obtain ⟨z,its,n,r,hl,e⟩:=I.lstM hH
 have hsz : sizeLine = 16777216:=rfl
 have hf : ¬ (!Builtin.List.listFitsIndex i) = true:=by
  rw [fitsIndex_both (by omega) (by omega)]
  exact Bool.false_ne_true
 refine call_meets F.slot_list_insert ⟨_,e,rfl⟩ F.entry_list_insert (F.args_list_insert_3 _ _ _) (AutoSeq1.list_insert_list_int_val_1 l its.toArray n i t u' hf (by rw [List.size_toArray]; omega)) ⟨e,?_⟩
 refine ⟨.non,_,I.lset (its':=its.take i.toNat ++ u' :: its.drop i.toNat) hH e ?_ ((r.take _).append (.cons ru' (r.drop _))) ?_,rfl,q⟩
 ·
  dsimp only
  rw [if_neg (by omega),List.size_toArray,Nat.min_eq_left (by omega)]
  apply Array.toList_inj.mp
  simp
  exact List.take_of_length_le (by simp)
 ·
  rw [List.length_append,List.length_cons,List.length_take,List.length_drop]
  omega
def insH (o : Option O3) (a : Addr) (i : Int) (t : T) (H : Hp3) (Q : VK3) : Prop:=match o with
 | some (.lst xs) => (0 <= i /\ i <= xs.length /\ xs.length < sizeLine) /\ Q .non (up3 H a (.lst (xs.take i.toNat ++ t :: xs.drop i.toNat)))
 | _ => False
def r3Ins : T -> List T -> Hp3 -> VK3 -> Prop:=fun x ts H Q => match x,ts with
 | .ref a,[.int i,t] => insH (H a) a i t H Q
 | _,_ => False
theorem q_ins (a : Addr) (i : Int) (t : T) (H : Hp3) (Q : VK3) : r3Ins (.ref a) [.int i,t] H Q = insH (H a) a i t H Q:=rfl
theorem q_insH (xs : List T) (a : Addr) (i : Int) (t : T) (H : Hp3) (Q : VK3) : insH (some (.lst xs)) a i t H Q = ((0 <= i /\ i <= xs.length /\ xs.length < sizeLine) /\ Q .non (up3 H a (.lst (xs.take i.toNat ++ t :: xs.drop i.toNat)))):=rfl
theorem m3_insert : MtR3 X "list.insert" r3Ins:=by
 refine MtR.imp mt_insert ?_
 rintro x xs H Q ⟨tx,ts,H3,Q3,rx,rs,sh,h,k⟩
 cases tx with
 | ref a =>
  cases ts with
  | nil => exact h.elim
  | cons t1 ts =>
   cases ts with
   | nil => cases t1 <;> exact h.elim
   | cons t2 ts =>
    cases ts with
    | cons _ _ => cases t1 <;> exact h.elim
    | nil =>
     cases t1 with
     | int i =>
      rw [q_ins] at h
      cases e : H3 a with
      | none => rw [e] at h; exact h.elim
      | some o =>
       rw [e] at h
       cases o with
       | lst ls =>
        rw [q_insH] at h
        obtain ⟨ys,hH,r⟩:=sh a _ e
        obtain ⟨⟨h1,h2,h3⟩,h'⟩:=h
        obtain ⟨v,v',rfl,rv,rv'⟩:=rs.two'
        refine ⟨a,ys,i,v',rx.ref,by rw [rv.int],hH,h1,by rw [<- r.length]; exact h2,by rw [<- r.length]; exact h3,k _ _ _ _ (wr_tupLe (by rw [hH]; exact trivial)) (sh.wrL hH ((r.take _).append (.cons rv' (r.drop _)))) .ofNon h'⟩
       | _ => exact h.elim
     | _ => exact h.elim
 | _ => exact h.elim
def mxH (o : Option O3) (H : Hp3) (Q : VK3) : Prop:=match o with
 | some (.lst xs) => oq (ints3 xs) fun ns => ns ≠ [] /\ ∀ M,M ∈ ns -> (∀ a ∈ ns,a <= M) -> Q (.int M) H
 | _ => False
def r3Max1 : List T -> Hp3 -> VK3 -> Prop:=fun ts H Q => match ts with
 | [.ref a] => mxH (H a) H Q
 | _ => False
theorem q_max1 (a : Addr) (H : Hp3) (Q : VK3) : r3Max1 [.ref a] H Q = mxH (H a) H Q:=rfl
theorem q_mxH (xs : List T) (H : Hp3) (Q : VK3) : mxH (some (.lst xs)) H Q = oq (ints3 xs) fun ns => ns ≠ [] /\ ∀ M,M ∈ ns -> (∀ a ∈ ns,a <= M) -> Q (.int M) H:=rfl
theorem c3_max1 (hc : X.calm = true) : CallR3 X (.builtin "max") r3Max1:=by
 intro pins s σ H xs us Q I rv h
 obtain ⟨ts,H3,Q3,r,sh,h,k⟩:=h
 cases ts with
 | nil => exact h.elim
 | cons t ts =>
  cases ts with
  | cons _ _ => cases t <;> exact h.elim
  | nil =>
   cases t with
   | ref a =>
    rw [q_max1] at h
    obtain ⟨v,rfl,rv'⟩:=r.one'
    obtain ⟨u,rfl,ru⟩:=vals1 rv
    rw [rv'.ref] at ru
    cases ru
    cases e : H3 a with
    | none => rw [e] at h; exact h.elim
    | some o =>
     rw [e] at h
     cases o with
     | lst ls =>
      rw [q_mxH] at h
      obtain ⟨ys,sq,rs⟩:=sh.sqL (.inl e)
      cases e2 : ints3 ls with
      | none => rw [e2] at h; exact h.elim
      | some ns =>
       rw [e2,q_oq] at h
       obtain ⟨hne,h⟩:=h
       obtain ⟨its,rvs,hl,_⟩:=I.list sq
       have hi:=ints3_vals e2 rs rvs
       have hall : AllInts its.toArray:=hi.allInts
       obtain ⟨zs,ez⟩:=hall.items
       have hls : s.heap.IsList a (intItems zs):=by rw [<- ez]; exact hl.isList
       have e1:=nums_intItems zs
       rw [<- ez,show its.toArray.toList = its from rfl,hi.numsOf] at e1
       have hz : 0 < zs.size:=by
        have:=congrArg List.length e1
        simp at this
        have:=List.length_pos_iff.mpr hne
        omega
       refine max_intList (I.ok.hd hc) hls hz fun v h' tk hv hk => ?_
       obtain ⟨t,rfl⟩:=intItems_at hv
       obtain ⟨h1,h2⟩:=argBest_gt (numAt zs) (zs.size - 1)
       refine ⟨.int _,H,I.kept hk,⟨t,rfl⟩,k _ _ _ _ .refl sh .ofInt (h _ ?_ fun a ha => ?_)⟩
       ·
        rw [e1,numAt_eq]; exact getD_mem (by rw [List.length_map,Array.length_toList]; omega)
       ·
        rw [e1] at ha
        obtain ⟨j,hj,rfl⟩:=mem_getD ha
        rw [List.length_map,Array.length_toList] at hj
        rw [<- numAt_eq]; exact h2 j (by omega)
     | _ => exact h.elim
   | _ => cases h
noncomputable def isS (z : Str) : Value -> Bool
 | .str x _ => x == z
 | _ => false
theorem strs_mem {us : List Value} {ns : List Str} (h : StrsAre us ns) : ∀ y ∈ us,∃ x t,y = Value.str x t:=by
 induction h with
 | nil => exact fun _ h => nomatch h
 | cons r t q ih =>
  intro y hy
  rcases List.mem_cons.mp hy with rfl | hy
  ·
   exact ⟨_,_,rfl⟩
  ·
   exact ih y hy
theorem strs_count {us : List Value} {ns : List Str} {z : Str} (h : StrsAre us ns) : us.countP (isS z) = ns.countP (· == z):=by
 induction h with
 | nil => rfl
 | cons r t q ih => rw [List.countP_cons,List.countP_cons,ih]; rfl
def r3Cnt : T -> List T -> Hp3 -> VK3 -> Prop:=fun x ts H Q => match x,ts with
 | .tup xs,[.str z] => oq (strs3 xs) fun ns => Q (.int (ns.countP (· == z))) H
 | _,_ => False
theorem q_tyT (Ty : String) (ts : List T) (H : Hp3) : ty3 Ty (.tup ts) H = (Ty = "tuple"):=rfl
theorem q_cnt (xs : List T) (z : Str) (H : Hp3) (Q : VK3) : r3Cnt (.tup xs) [.str z] H Q = oq (strs3 xs) fun ns => Q (.int (ns.countP (· == z))) H:=rfl
theorem m3_count : MtR3 X "tuple.count" r3Cnt:=by
 intro pins s σ H x xs v us Q I rx0 rs0 hh
 obtain ⟨tx,ts,H3,Q3,rx,rs,sh,h,k⟩:=hh
 cases tx with
 | tup ws =>
  cases ts with
  | nil => exact h.elim
  | cons t1 ts =>
   cases ts with
   | cons _ _ => cases t1 <;> exact h.elim
   | nil =>
    cases t1 with
    | str z =>
     rw [q_cnt] at h
     cases e2 : strs3 ws with
     | none => rw [e2] at h; exact h.elim
     | some ns =>
      rw [e2,q_oq] at h
      obtain ⟨a,ys,rfl,sq,ry⟩:=rx.tup
      have rx0' : v = .ref a:=rx0
      subst rx0'
      obtain ⟨w,rfl,rw'⟩:=rs.one'
      obtain ⟨u,rfl,ru⟩:=vals1 rs0
      rw [rw'.str] at ru
      obtain ⟨tk,rfl⟩:=ru
      obtain ⟨its,rvs,p1,_⟩:=I.tuple sq
      have hs:=strs3_vals e2 ry rvs
      obtain ⟨⟨cls,dd,data,sl⟩,ho,hc,n,hd⟩:=p1
      simp only at hc hd
      subst hc hd
      refine call_meets F.slot_tuple_count ⟨_,ho,rfl⟩ F.entry_tuple_count (F.args_tuple_count_2 _ _) (SeqAt.tuple_countAt a its.toArray n dd sl (.str z tk) (isS z)) ⟨ho,fun y hy => ?_,?_⟩
      ·
       obtain ⟨x,t,rfl⟩:=strs_mem hs y (by simpa using hy)
       exact SeqAt.EqAt.str_str x t z tk
      ·
       refine ⟨.int _,H,I.tok _,⟨_,rfl⟩,?_⟩
       rw [show its.toArray.toList = its from rfl,strs_count hs]
       exact k _ _ _ _ .refl sh .ofInt h
    | _ => exact h.elim
 | _ => exact h.elim
theorem noFill_tuple_mul : fillsNumberSlot (.type "tuple") "mul" = pure false :=
 PySem.fillsNumberSlot_seq (id:="tuple.__mul__") (r:=some (.builtin "tuple.__rmul__")) F.slot_tuple_mul.lookup (by decide +kernel) F.slot_tuple_rmul.lookup (by decide +kernel)
theorem repeat_tuple : seqRepeat? (.type "tuple") = pure (some (.builtin "tuple.__mul__")):=by
 unfold seqRepeat?
 rw [PySem.seqSlot_of (T:="tuple") (name:="__mul__") (id:="tuple.__mul__") F.slot_tuple_mul.lookup (by decide +kernel),PySem.seqSlot_of (T:="tuple") (name:="__rmul__") (id:="tuple.__rmul__") F.slot_tuple_rmul.lookup (by decide +kernel)]
 rfl
theorem int_rmul_tuple (a : Int) (t : Tok) (l : Addr) (items : Array Value) (n : Nat) (dd : Option Addr) (sl : Array (Option Value)) :
  Meets (Builtin.«int.__rmul__» ⟨[.int a t,.ref l],[]⟩) (fun _ R s => s.heap.get? l = some { cls:=.type "tuple",dict:=dd,data:=.seq items n,slots:=sl } /\ R (.ok (.ret Value.notImplemented)) s) :=
 .of_wp fun prog w A R s h => by obtain ⟨hp,g,d,tk,os⟩:=s; obtain ⟨hl,h⟩:=h; wp_walk; exact ⟨_,rfl,h⟩
theorem tuple_mul_int (l : Addr) (its : List Value) (n : Nat) (dd : Option Addr) (sl : Array (Option Value)) (x : Int) (u : Tok) (h2 : 2 <= x) (hx : x < 2 ^ 63) (hi0 : 0 < its.length) (hz0 : its.length * x.toNat <= sizeLine) :
  Meets (Builtin.«tuple.__mul__» ⟨[.ref l,.int x u],[]⟩) (fun _ R s => s.heap.get? l = some { cls:=.type "tuple",dict:=dd,data:=.seq its.toArray n,slots:=sl } /\ R (.ok (.ret (Value.ref s.heap.objs.size))) { s with heap:=s.heap.push { cls:=Value.type "tuple",data:=Data.seq (List.replicate x.toNat its).flatten.toArray },toks:=s.toks }) :=
 .of_wp fun prog w A R s h => by
  obtain ⟨hp,g,d,tk,os⟩:=s; obtain ⟨hl,h⟩:=h; have f1:=AutoSeq1.idx_int
  have hnew : List.foldl (fun x1 x2 => x1 ++ x2) #[] (List.replicate x.toNat its.toArray) = (List.replicate x.toNat its).flatten.toArray:=by
   have:=foldl_rep its x.toNat []
   rw [List.nil_append] at this
   exact this
  have hi : 0 < its.toArray.size:=by rw [List.size_toArray]; exact hi0
  have hz : its.toArray.size * x.toNat <= sizeLine:=by rw [List.size_toArray]; exact hz0
  generalize hit : its.toArray = items at *
  have hns : (List.foldl (fun x1 x2 => x1 ++ x2) #[] (List.replicate x.toNat items)).size <= sizeLine:=by
   rw [hnew,List.size_toArray,len_rep,Nat.mul_comm]; exact hz0
  have e1 : items.isEmpty = false:=by
   cases h : items.isEmpty
   ·
    rfl
   ·
    rw [Array.isEmpty_iff_size_eq_zero] at h; omega
  have e2 : (items.isEmpty || x == 1) = false:=by rw [e1,Bool.false_or,beq_eq_false_iff_ne]; omega
  have e3 : (decide (x <= 0) || items.isEmpty) = false:=by rw [e1,Bool.or_false,decide_eq_false_iff_not]; omega
  have e4 : (items.size : Int) * x = ((items.size * x.toNat : Nat) : Int):=by rw [Int.natCast_mul,Int.toNat_of_nonneg (by omega)]
  have hsz : sizeLine = 16777216:=rfl
  have e5 : Builtin.Tuple.tupleTooMany ((items.size : Int) * x) = false:=by
   rw [e4]; unfold Builtin.Tuple.tupleTooMany; exact decide_eq_false (by omega)
  have e6 : ¬ ((items.size : Int) * x > (2 ^ 63 - 1) / 8):=by rw [e4]; omega
  wp_walk using wpAny_loadPart' hl
  refine wpAny_ite_false (decide_eq_false (by simp; omega)) ?_
  wp_walk using wpAny_loadPart' hl
  refine wpAny_ite_false (decide_eq_false (by rw [e2]; exact Bool.false_ne_true)) ?_
  wp_walk using wpAny_loadPart' hl
  refine wpAny_ite_false (decide_eq_false (by rw [e3]; exact Bool.false_ne_true)) ?_
  wp_walk using wpAny_loadPart' hl
  refine wpAny_ite_false (decide_eq_false e6) ?_
  wp_walk using wpAny_loadPart' hl
  refine wpAny_ite_false (decide_eq_false (by rw [e5]; exact Bool.false_ne_true)) ?_
  wp_walk using wpAny_loadPart' hl
  refine wpAny_ite_false (decide_eq_false (Nat.not_lt.mpr hns)) ?_
  wp_walk
  rw [hnew]
  exact ⟨_,rfl,h⟩
theorem op_repT : OpR X (binaryOp .Mult) (fun x y H Q => ∃ a k xs,x = .ref a /\ y = .int k /\ SqT X.K H a xs /\ xs ≠ [] /\ 2 <= k /\ k < 2 ^ 63 /\ xs.length * k.toNat <= sizeLine /\
  ∀ p,H p = none -> Q (.ref p) (upd H p (.tup (List.replicate k.toNat xs).flatten))):=by
 intro pins s σ H x y v u Q I rx ry h
 obtain ⟨a,k,xs,rfl,rfl,sq,hne,h1,h2,hz,q⟩:=h
 cases rx
 obtain ⟨t,rfl⟩:=ry
 obtain ⟨its,r,p1,_⟩:=I.tuple sq
 have hl:=r.length
 have hl0 : 0 < its.length:=by rw [<- hl]; exact List.length_pos_iff.mpr hne
 obtain ⟨⟨cls,dd,data,sl⟩,ho,hc,n,hd⟩:=p1
 simp only at hc hd
 subst hc hd
 refine wpAny_binaryOp_repeat_ref (T:="tuple") (U:="int") (by decide) ⟨_,ho,rfl⟩ (fun s' => typeIs_int s' k t) noFill_tuple_mul F.fills_int_mul F.slot_int_rmul repeat_tuple F.slot_int_index.lookup
  (call_meets F.slot_int_rmul (typeIs_int s k t) F.entry_int_rmul (F.args_int_rmul_2 _ _) (int_rmul_tuple k t a its.toArray n dd sl)
   ⟨ho,rfl,⟨_,ho,rfl⟩,call_meets F.slot_tuple_mul ⟨_,ho,rfl⟩ F.entry_tuple_mul (F.args_tuple_mul_2 _ _) (tuple_mul_int a its n dd sl k t h1 h2 hl0 (by rw [<- hl]; exact hz)) ⟨ho,?_⟩⟩)
 refine ⟨.ref s.heap.objs.size,_,I.laid (t':=s.toks) (o:=.tup (List.replicate k.toNat xs).flatten) (fun b ob q => Heap.get?_push_of_some _ q) (Nat.le_refl _) ?_,rfl,q _ (I.hok.fresh (Nat.le_refl _))⟩
 exact ⟨by rw [len_rep,Nat.mul_comm]; exact hz,_,r.rep k.toNat,Tup0.new _ _⟩
def rRepT3 : R3:=fun x y H Q => match x,y with
 | .tup xs,.int k => (xs ≠ [] /\ 2 <= k /\ k < 2 ^ 63 /\ xs.length * k.toNat <= sizeLine) /\ Q (.tup (List.replicate k.toNat xs).flatten) H
 | _,_ => False
theorem q_repT (xs : List T) (k : Int) (H : Hp3) (Q : VK3) : rRepT3 (.tup xs) (.int k) H Q = ((xs ≠ [] /\ 2 <= k /\ k < 2 ^ 63 /\ xs.length * k.toNat <= sizeLine) /\ Q (.tup (List.replicate k.toNat xs).flatten) H):=rfl
theorem o3_repT : OpR3 X (binaryOp .Mult) rRepT3:=by
 refine OpR.imp op_repT ?_
 rintro x y H Q ⟨tx,ty,H3,Q3,rx,ry,sh,h,k⟩
 cases tx with
 | tup xs =>
  cases ty with
  | int n =>
   rw [q_repT] at h
   obtain ⟨⟨h0,h1,h2,h3⟩,h'⟩:=h
   obtain ⟨a,vs,rfl,s1,r1⟩:=rx.tup
   refine ⟨a,n,vs,rfl,ry.int,s1,fun e => h0 ?_,h1,h2,by rw [<- r1.length]; exact h3,fun p hp => ?_⟩
   ·
    rw [e] at r1; exact List.eq_nil_of_length_eq_zero r1.length
   ·
    exact k _ _ _ _ (upd_tupLe hp) (sh.new hp) (SimH.newTup (H3:=H3) hp (r1.rep n.toNat)) h'
  | _ => exact h.elim
 | _ => exact h.elim
end
end L3
namespace L3
open PySem PySem.Spec PyProof.Rows L2
theorem cIter_f3 {α : Type} (e1 e2 e3 f : α -> T) (p : α -> Bool) (as : List α) (rest : St3) {tt : TT3} {te : TE3} {still : Hp3 -> Prop} {fin : List T -> Hp3 -> Prop} {v u w : Option T} {H : Hp3} (hst : still H) (hl : as.length <= sizeLine)
  (hc : ∀ a ∈ as,∀ Q : Bool -> Hp3 -> Prop,Q (p a) H -> tt (some (e1 a) :: some (e2 a) :: some (e3 a) :: rest) H Q)
  (ht : ∀ a ∈ as,p a = true -> ∀ Q : VK3,Q (f a) H -> te (some (e1 a) :: some (e2 a) :: some (e3 a) :: rest) H Q) (hfin : fin ((as.filter p).map f) H) :
  cIter3 (gTup3 3 (gCons3 (gName3 0) (gCons3 (gName3 1) (gCons3 (gName3 2) gNil3)))) tt te still fin (as.map fun a => .tup [e1 a,e2 a,e3 a]) [] (v :: u :: w :: rest) H:=by
 refine cIter_go (fun r ys σ H' => ∃ (rs ds : List α) (v u w : Option T),σ = v :: u :: w :: rest /\ r = rs.map (fun a => .tup [e1 a,e2 a,e3 a]) /\ ys = (ds.filter p).map f /\ ds ++ rs = as /\ H' = H) ⟨as,[],v,u,w,rfl,rfl,rfl,rfl,rfl⟩ ?_ ?_
 ·
  rintro ys σ H' ⟨rs,ds,v,u,w,rfl,hrs,rfl,hsp,rfl⟩
  have hrs' : rs = []:=List.map_eq_nil_iff.mp hrs.symm
  subst hrs'
  rw [List.append_nil] at hsp
  subst hsp
  exact ⟨hst,by rw [List.length_map]; exact Nat.le_trans (List.length_filter_le _ _) hl,hfin⟩
 ·
  rintro x r ys σ H' N ⟨rs,ds,v,u,w,rfl,hrs,rfl,hsp,rfl⟩ hN
  cases rs with
  | nil => cases hrs
  | cons t rs =>
   injection hrs with a1 a2
   subst a1 a2
   refine ⟨hst,rfl,?_⟩
   show tt (some (e1 t) :: some (e2 t) :: some (e3 t) :: rest) H' _
   refine hc t (by rw [<- hsp]; simp) _ ?_
   cases hp : p t with
   | true =>
    rw [if_pos rfl]
    refine ht t (by rw [<- hsp]; simp) hp _ ⟨?_,hN _ _ _ ⟨rs,ds ++ [t],_,_,_,rfl,rfl,by simp [hp],by rw [<- hsp]; simp,rfl⟩⟩
    have:=congrArg List.length hsp
    simp only [List.length_append,List.length_cons] at this
    rw [List.length_map]
    have:=List.length_filter_le p ds
    omega
   | false =>
    rw [if_neg Bool.false_ne_true]
    exact hN _ _ _ ⟨rs,ds ++ [t],_,_,_,rfl,rfl,by simp [hp],by rw [<- hsp]; simp,rfl⟩
end L3
namespace L3
open PySem PySem.Spec PyProof.Rows L2 HT
section
variable {prog : Program} {w : World} {A : Around} {E : Value -> Shared -> Prop} {s : Shared}
end
section
variable {X : Cx}
def r3SlT : T -> Option Int -> Option Int -> Hp3 -> VK3 -> Prop:=fun x lo hi H Q => match x with
 | .tup ts => Q (.tup (cut3 ts lo hi)) H
 | _ => False
def tSlT3 (te : TE3) (tl th : TO3) : TE3:=fun σ H Q => te σ H fun x H1 => tl σ H1 fun l H2 => th σ H2 fun u H3 => r3SlT x l u H3 Q
theorem q_slT' (ts : List T) (lo hi : Option Int) (H : Hp3) (Q : VK3) : r3SlT (.tup ts) lo hi H Q = Q (.tup (cut3 ts lo hi)) H:=rfl
theorem q_tSlT (te : TE3) (tl th : TO3) (σ : St3) (H : Hp3) (Q : VK3) : tSlT3 te tl th σ H Q = te σ H fun x H1 => tl σ H1 fun l H2 => th σ H2 fun u H3 => r3SlT x l u H3 Q:=rfl
end
end L3
namespace L3
open PySem PySem.Spec PyProof.Rows L2 HT
section
variable {prog : Program} {w : World} {A : Around} {E : Value -> Shared -> Prop} {s : Shared}
end
section
variable {X : Cx} {e st : Expr} {p2 pos : Pos}
def rvT (x : T) (o : Option Int) (H : Hp3) (Q : VK3) : Prop:=match x with
 | .tup ts => o = some (-1) /\ Q (.tup ts.reverse) H
 | _ => False
def tRevT3 (te : TE3) (ts : TO3) : TE3:=fun σ H Q => te σ H fun x H1 => ts σ H1 fun o H2 => rvT x o H2 Q
theorem q_revT (te : TE3) (ts : TO3) {σ : St3} {H : Hp3} {Q : VK3} : tRevT3 te ts σ H Q = te σ H fun x H1 => ts σ H1 fun o H2 => rvT x o H2 Q:=rfl
theorem q_rvT (xs : List T) (o : Option Int) {H : Hp3} {Q : VK3} : rvT (.tup xs) o H Q = (o = some (-1) /\ Q (.tup xs.reverse) H):=rfl
end
end L3
namespace M
noncomputable def mxI (i j : Int) : Int:=if j > i then j else i
theorem mxI_l (i j : Int) : i <= mxI i j:=by unfold mxI; split <;> omega
theorem mxI_r (i j : Int) : j <= mxI i j:=by unfold mxI; split <;> omega
theorem mxI_or (i j : Int) : mxI i j = i \/ mxI i j = j:=by unfold mxI; split <;> simp
noncomputable def run : List Int -> Int -> Int -> Int
 | [],_,g => g
 | x :: r,lag,g => run r (mxI 0 (lag + x)) (mxI g (mxI 0 (lag + x)))
noncomputable def seg (f : Nat -> Int) (i : Nat) : Nat -> Int
 | 0 => 0
 | k + 1 => seg f i k + f (i + k)
structure Rin (f : Nat -> Int) (t : Nat) (lag g : Int) : Prop where
 a : ∀ i k,i + k = t -> seg f i k <= lag
 b : ∃ i k,i + k = t /\ seg f i k = lag
 c : ∀ i k,i + k <= t -> seg f i k <= g
 d : ∃ i k,i + k <= t /\ seg f i k = g
theorem Rin.zero (f : Nat -> Int) : Rin f 0 0 0 where
 a:=fun i k h => by
  have : k = 0:=by omega
  subst this; exact Int.le_refl _
 b:=⟨0,0,rfl,rfl⟩
 c:=fun i k h => by
  have : k = 0:=by omega
  subst this; exact Int.le_refl _
 d:=⟨0,0,by omega,rfl⟩
theorem Rin.step {f : Nat -> Int} {t : Nat} {lag g : Int} (h : Rin f t lag g) : Rin f (t + 1) (mxI 0 (lag + f t)) (mxI g (mxI 0 (lag + f t))):=by
 have ha : ∀ i k,i + k = t + 1 -> seg f i k <= mxI 0 (lag + f t):=fun i k e => by
  cases k with
  | zero => exact mxI_l _ _
  | succ k =>
   have e' : i + k = t:=by omega
   have:=h.a i k e'
   have q:=mxI_r 0 (lag + f t)
   show seg f i k + f (i + k) <= _
   rw [e']; omega
 have hb : ∃ i k,i + k = t + 1 /\ seg f i k = mxI 0 (lag + f t):=by
  rcases mxI_or 0 (lag + f t) with e | e
  ·
   exact ⟨t + 1,0,by omega,by rw [e]; rfl⟩
  ·
   obtain ⟨i,k,e1,e2⟩:=h.b
   exact ⟨i,k + 1,by omega,by show seg f i k + f (i + k) = _; rw [e,e1,e2]⟩
 refine ⟨ha,hb,fun i k e => ?_,?_⟩
 ·
  by_cases q : i + k = t + 1
  ·
   exact Int.le_trans (ha i k q) (mxI_r _ _)
  ·
   exact Int.le_trans (h.c i k (by omega)) (mxI_l _ _)
 ·
  rcases mxI_or g (mxI 0 (lag + f t)) with e | e
  ·
   obtain ⟨i,k,e1,e2⟩:=h.d
   exact ⟨i,k,by omega,by rw [e,e2]⟩
  ·
   obtain ⟨i,k,e1,e2⟩:=hb
   exact ⟨i,k,by omega,by rw [e,e2]⟩
theorem Rin.run {f : Nat -> Int} : ∀ (l : List Int) (t : Nat) (lag g : Int),(∀ j,j < l.length -> l[j]? = some (f (t + j))) -> Rin f t lag g -> ∃ lag',Rin f (t + l.length) lag' (M.run l lag g)
 | [],t,lag,g,_,h => ⟨lag,h⟩
 | x :: r,t,lag,g,hl,h => by
  have e0 : x = f t:=by have:=hl 0 (by simp); simpa using this
  subst e0
  have:=Rin.run r (t + 1) _ _ (fun j hj => by have:=hl (j + 1) (by simp; omega); rw [List.getElem?_cons_succ] at this; rw [this]; congr 2; omega) h.step
  obtain ⟨l',q⟩:=this
  refine ⟨l',?_⟩
  rw [List.length_cons,show t + (r.length + 1) = t + 1 + r.length by omega]
  exact q
noncomputable def per (x : List Int) (i : Nat) : Int:=x.getD (i % x.length) 0
theorem rep_at (x : List Int) : ∀ (m j : Nat),j < m * x.length -> (List.replicate m x).flatten[j]? = some (per x j)
 | 0,j,h => by omega
 | m + 1,j,h => by
  rw [List.replicate_succ,List.flatten_cons]
  by_cases q : j < x.length
  ·
   rw [List.getElem?_append_left q,per,Nat.mod_eq_of_lt q,List.getD_eq_getElem?_getD,List.getElem?_eq_getElem q]; rfl
  ·
   have e : j - x.length < m * x.length:=by rw [Nat.succ_mul] at h; omega
   rw [List.getElem?_append_right (by omega),rep_at x m _ e,per,per]
   congr 2
   conv => rhs; rw [show j = (j - x.length) + x.length by omega,Nat.add_mod_right]
structure Top (f : Nat -> Int) (v : Int) : Prop where
 le : ∀ i k,seg f i k <= v
 at' : ∃ i k,seg f i k = v
theorem Top.uniq {f : Nat -> Int} {v w : Int} (h : Top f v) (h' : Top f w) : v = w:=by
 obtain ⟨i,k,e⟩:=h.at'
 obtain ⟨i',k',e'⟩:=h'.at'
 have:=h.le i' k'
 have:=h'.le i k
 omega
def Pd (f : Nat -> Int) (n : Nat) : Prop:=∀ i,f (i + n) = f i
theorem per_pd (x : List Int) : Pd (per x) x.length:=fun i => by rw [per,per,Nat.add_mod_right]
theorem seg_cong {f g : Nat -> Int} {i j : Nat} : ∀ k,(∀ t,t < k -> f (i + t) = g (j + t)) -> seg f i k = seg g j k
 | 0,_ => rfl
 | k + 1,h => by rw [seg,seg,seg_cong k (fun t ht => h t (by omega)),h k (by omega)]
theorem Pd.seg {f : Nat -> Int} {n : Nat} (h : Pd f n) (i k : Nat) : M.seg f (i + n) k = M.seg f i k :=
 seg_cong k fun t _ => by rw [show i + n + t = i + t + n by omega]; exact h _
theorem Pd.mul {f : Nat -> Int} {n : Nat} (h : Pd f n) (i k : Nat) : ∀ c,M.seg f (i + c * n) k = M.seg f i k
 | 0 => by rw [Nat.zero_mul,Nat.add_zero]
 | c + 1 => by rw [Nat.succ_mul,<- Nat.add_assoc,h.seg,h.mul i k c]
theorem seg_succ (f : Nat -> Int) (i : Nat) : ∀ k,seg f i (k + 1) = f i + seg f (i + 1) k
 | 0 => by simp [seg]
 | k + 1 => by
  rw [seg,seg_succ f i k,seg,show i + 1 + k = i + (k + 1) by omega]; omega
theorem seg_add (f : Nat -> Int) (i k : Nat) : ∀ l,seg f i (k + l) = seg f i k + seg f (i + k) l
 | 0 => by simp [seg]
 | l + 1 => by rw [<- Nat.add_assoc,seg,seg_add f i k l,seg,Nat.add_assoc,Int.add_assoc]
theorem Pd.round {f : Nat -> Int} {n : Nat} (h : Pd f n) : ∀ i,M.seg f i n = M.seg f 0 n
 | 0 => rfl
 | i + 1 => by
  rw [<- h.round i]
  have e1:=seg_succ f i n
  have e2 : M.seg f i (n + 1) = M.seg f i n + f (i + n):=rfl
  rw [h i] at e2
  omega
theorem Pd.top {f : Nat -> Int} {n : Nat} {g lag : Int} {N : Nat} (h : Pd f n) (hn : 0 < n) (hs : M.seg f 0 n <= 0) (hN : 2 * n <= N) (r : Rin f N lag g) : Top f g where
 at':=by obtain ⟨i,k,_,e⟩:=r.d; exact ⟨i,k,e⟩
 le:=by
  have key : ∀ c i k,k < n -> M.seg f i (k + c * n) <= M.seg f i k:=fun c => by
   induction c with
   | zero => intro i k _; rw [Nat.zero_mul]; exact Int.le_refl _
   | succ c ih =>
    intro i k hk
    have e:=seg_add f i (k + c * n) n
    rw [h.round] at e
    have:=ih i k hk
    rw [Nat.succ_mul,<- Nat.add_assoc,e]
    omega
  intro i k
  have hk:=Nat.mod_lt k hn
  have hi:=Nat.mod_lt i hn
  have e1:=key (k / n) i (k % n) hk
  rw [show k % n + k / n * n = k by rw [Nat.mul_comm]; exact Nat.mod_add_div k n] at e1
  have e2:=h.mul (i % n) (k % n) (i / n)
  rw [show i % n + i / n * n = i by rw [Nat.mul_comm]; exact Nat.mod_add_div i n] at e2
  have e3:=r.c (i % n) (k % n) (by omega)
  omega
theorem seg_sum (x : List Int) : seg (per x) 0 x.length = x.sum:=by
 have key : ∀ k,k <= x.length -> seg (per x) 0 k = (x.take k).sum:=fun k => by
  induction k with
  | zero => intro _; simp [seg]
  | succ k ih =>
   intro hk
   rw [seg,ih (by omega),List.take_succ,List.sum_append,Nat.zero_add,per,Nat.mod_eq_of_lt (by omega),List.getD_eq_getElem?_getD,List.getElem?_eq_getElem (by omega)]
   simp
 rw [key _ (Nat.le_refl _),List.take_length]
theorem run_top {x : List Int} {m : Nat} (hm : 2 <= m) (hx : 0 < x.length) (hs : x.sum <= 0) : Top (per x) (run (List.replicate m x).flatten 0 0):=by
 have hl : (List.replicate m x).flatten.length = m * x.length:=by simp [List.length_flatten]
 obtain ⟨lag,r⟩:=Rin.run (f:=per x) (List.replicate m x).flatten 0 0 0 (fun j hj => by rw [Nat.zero_add]; exact rep_at x m j (by omega)) (Rin.zero _)
 refine (per_pd x).top hx (by rw [seg_sum]; exact hs) (N:=0 + (List.replicate m x).flatten.length) ?_ r
 rw [hl]
 have:=Nat.mul_le_mul_right x.length hm
 omega
theorem run_nn : ∀ (l : List Int) (lag g : Int),g <= run l lag g
 | [],_,_ => Int.le_refl _
 | x :: r,lag,g => Int.le_trans (mxI_l _ _) (run_nn r _ _)
theorem mxI_assoc (a b c : Int) : mxI a (mxI b c) = mxI (mxI a b) c:=by unfold mxI; (repeat' split) <;> omega
theorem run_from : ∀ (l : List Int) (lag g h : Int),run l lag (mxI g h) = mxI g (run l lag h)
 | [],_,_,_ => rfl
 | x :: r,lag,g,h => by rw [run,run,<- mxI_assoc,run_from r]
end M
namespace M
open PySem PySem.Spec PyProof.Rows L2 L3
noncomputable def mxK (a b : Int) (p : (Str × Int × List Str) × Int) : Str × Int × List Str:=(p.1.1,a * p.1.2.1 + b * p.2,p.1.2.2)
noncomputable def pT (p : (Str × Int × List Str) × Int) : T:=.tup [tkT p.1,.int p.2]
theorem zip_pT : ∀ (tk : List (Str × Int × List Str)) (zs : List Int),zip3 (tk.map tkT) (zs.map T.int) = (tk.zip zs).map pT
 | [],_ => rfl
 | _ :: _,[] => rfl
 | t :: tk,z :: zs => by
  simp only [List.map_cons,zip3,List.zip_cons_cons,zip_pT tk zs,pT]
def Sml (i : Int) : Prop:=0 <= i /\ i <= 5
theorem Sml.mul {i : Int} (h : Sml i) (j : Int) : CMul i j:=.inl ⟨by have:=h.1; omega,by have:=h.2; omega⟩
theorem flat_one {α : Type} (x : α) : ∀ n : Nat,(List.replicate n [x]).flatten = List.replicate n x
 | 0 => rfl
 | n + 1 => by rw [List.replicate_succ,List.flatten_cons,flat_one x n]; rfl
def spMt : Sp3:=fun ts H Q => ∃ (n : Str) (l o a b : Int) (ks : List Str),ts = [.tup [.str n,.int l,.tup (ks.map T.str)],.int o,.tup [.int a,.int b]] /\ Sml a /\ Sml b /\ Q (.tup [.str n,.int (a * l + b * o),.tup (ks.map T.str)]) H
def spMw : Sp3:=fun ts H Q => ∃ (W : Wk) (zs : List Int) (a b : Int),ts = [W.enc,.tup (zs.map T.int),.tup [.int a,.int b]] /\ WkOk W /\ Sml a /\ Sml b /\ Q (.tup [.tup (((W.tasks.zip zs).map (mxK a b)).map tkT),.tup (W.orders.map orT),.tup (W.pairs.map prT),.tup (W.row.map T.str)]) H
def spRb : Sp3:=fun ts H Q => ∃ (t a b : Int),ts = [.int t,.tup [.int a,.int b]] /\ Sml a /\ Sml b /\ Q (.int (t * (a + b))) H
noncomputable def ld (tk : List (Str × Int × List Str)) (ns : List Str) : Int:=((tk.filter (fun t => memB false (.str t.1) (ns.map T.str))).map (·.2.1)).sum
noncomputable def ld2 (ps : List ((Str × Int × List Str) × Int)) (ns : List Str) : Int:=((ps.filter (fun p => memB false (.str p.1.1) (ns.map T.str))).map (·.2)).sum
theorem ld_mix (a b : Int) (ns : List Str) : ∀ (tk : List (Str × Int × List Str)) (zs : List Int),tk.length = zs.length -> ld ((tk.zip zs).map (mxK a b)) ns = a * ld tk ns + b * ld2 (tk.zip zs) ns
 | [],[],_ => by simp [ld,ld2]
 | t :: tk,z :: zs,h => by
  have ih:=ld_mix a b ns tk zs (by simpa using h)
  simp only [ld,ld2,List.zip_cons_cons,List.map_cons,List.filter_cons] at ih ⊢
  rw [show (mxK a b (t,z)).1 = t.1 from rfl]
  cases memB false (.str t.1) (ns.map T.str) with
  | false => simpa using ih
  | true =>
   simp only [if_true,List.map_cons,List.sum_cons,ih,mxK]
   rw [Int.mul_add,Int.mul_add]
   omega
def spLo : Sp3:=fun ts H Q => ∃ (W : Wk) (ns : List Str),ts = [W.enc,.tup (ns.map T.str)] /\ W.tasks.length <= 8 /\ Q (.int (ld W.tasks ns)) H
def spLs : Sp3:=fun ts H Q => ∃ (W : Wk) (D : List (List Str)),ts = [W.enc,.tup (D.map sT)] /\ W.tasks.length <= 8 /\ D.length <= 8 /\ Q (.tup ((D.map (ld W.tasks)).map T.int)) H
theorem zip_ld (g : List Str -> Int) : ∀ D : List (List Str),zip3 (D.map sT) ((D.map g).map T.int) = D.map fun ns => .tup [sT ns,.int (g ns)]
 | [] => rfl
 | ns :: D => by simp only [List.map_cons,zip3,zip_ld g D]
def spCr : Sp3:=fun ts H Q => ∃ (W : Wk) (zs : List Int) (beat : Int) (D : List (List Str)) (a b : Int),ts = [W.enc,.tup (zs.map T.int),.int beat,.tup (D.map sT),.tup [.int a,.int b]] /\ WkOk W /\ D.length <= 8 /\ Sml a /\ Sml b /\
 (∀ ns ∈ D,ld ((W.tasks.zip zs).map (mxK a b)) ns <= beat * (a + b)) /\ Q .non H
noncomputable def byW (xs ys : List Int) : List (Str × T):=[("one",.tup (xs.map T.int)),("other",.tup (ys.map T.int))]
def spLw : Sp3:=fun ts H Q => ∃ (W : Wk) (zs : List Int) (D : List (List Str)),ts = [W.enc,.tup (zs.map T.int),.tup (D.map sT)] /\ WkOk W /\ D.length <= 8 /\ W.tasks.length = zs.length /\
 ∀ p,H p = none -> Q (.ref p) (up3 H p (.dct (byW (D.map (ld W.tasks)) (D.map (ld2 (W.tasks.zip zs))))))
def spSl : Sp3:=fun ts H Q => ∃ (beat : Int) (a : Addr) (ls : List Int),ts = [.int beat,.ref a] /\ H a = some (.lst (ls.map T.int)) /\ ls.length <= 100 /\ Q (.int (run ((ls ++ ls).map (· - beat)) 0 0)) H
noncomputable def pk (a b : Int) (t : Str) : Int:=if t = "other" then b else a
structure Tn (tn : List Str) : Prop where
 w : ∀ t ∈ tn,t = "one" \/ t = "other"
 l : tn.length <= 10
 n : 1 <= tn.length
def spLa : Sp3:=fun ts H Q => ∃ (p : Addr) (xs ys : List Int) (tn : List Str) (i : Nat),ts = [.ref p,.tup (tn.map T.str),.int i] /\ H p = some (.dct (byW xs ys)) /\ i < xs.length /\ xs.length = ys.length /\ Tn tn /\
 ∀ q,H q = none -> Q (.ref q) (up3 H q (.lst ((tn.map (pk (xs.getD i 0) (ys.getD i 0))).map T.int)))
noncomputable def S2 (beat a b : Int) (tn : List Str) : Int:=run ((tn.map (pk a b) ++ tn.map (pk a b)).map (· - beat)) 0 0
def IsMax (L : List Int) (M : Int) : Prop:=M ∈ L /\ ∀ a ∈ L,a <= M
def spRl : Sp3:=fun ts H Q => ∃ (beat : Int) (p : Addr) (xs ys : List Int) (tn : List Str),ts = [.int beat,.ref p,.tup (tn.map T.str)] /\ H p = some (.dct (byW xs ys)) /\ 1 <= xs.length /\ xs.length <= 8 /\ xs.length = ys.length /\ Tn tn /\
 ∀ M,IsMax ((List.range xs.length).map fun i => S2 beat (xs.getD i 0) (ys.getD i 0) tn) M -> Q (.int M) H
theorem range_two {α : Type} (f g : α -> Int) (h : Int -> Int -> Int) (D : List α) : (List.range (D.map f).length).map (fun i => h ((D.map f).getD i 0) ((D.map g).getD i 0)) = D.map fun x => h (f x) (g x):=by
 apply List.ext_getElem?
 intro i
 rw [List.getElem?_map,List.getElem?_map,List.length_map]
 by_cases hi : i < D.length
 ·
  rw [List.getElem?_range hi,List.getElem?_eq_getElem hi]
  simp [List.getD_eq_getElem?_getD,List.getElem?_eq_getElem hi]
 ·
  rw [List.getElem?_eq_none (by simp; omega),List.getElem?_eq_none (by omega)]; rfl
noncomputable def S2W (tk : List (Str × Int × List Str)) (zs : List Int) (beat : Int) (tn ns : List Str) : Int:=S2 beat (ld tk ns) (ld2 (tk.zip zs) ns) tn
noncomputable def c1 (tn : List Str) : Int:=tn.countP (fun t : Str => t == ("one" : Str))
noncomputable def c2 (tn : List Str) : Int:=tn.countP (fun t : Str => t == ("other" : Str))
def Fits (tk : List (Str × Int × List Str)) (zs : List Int) (beat : Int) (D : List (List Str)) (a b : Int) : Prop:=∀ ns ∈ D,a * ld tk ns + b * ld2 (tk.zip zs) ns <= beat * (a + b)
def spOth : Sp3:=fun ts H Q => ∃ (W : Wk) (c : Addr),ts = [W.enc,.ref c] /\ WkOk W /\ Cl H c /\ ∀ (zs : List Int) (H' : Hp3),zs.length = W.tasks.length -> Drw c H H' -> Q (.tup (zs.map T.int)) H'
def spLl : Sp3:=fun ts H Q => ∃ (W : Wk) (zs : List Int) (ns : List Str),ts = [W.enc,.tup (zs.map T.int),.tup (ns.map T.str)] /\ W.tasks.length <= 8 /\ W.tasks.length = zs.length /\ ∀ p,H p = none -> Q (.ref p) (up3 H p (.lst [.int (ld W.tasks ns),.int (ld2 (W.tasks.zip zs) ns)]))
theorem ld_snoc (tk : List (Str × Int × List Str)) (t : Str × Int × List Str) (ns : List Str) : ld (tk ++ [t]) ns = ld tk ns + if memB false (.str t.1) (ns.map T.str) = true then t.2.1 else 0:=by
 unfold ld
 rw [List.filter_append,List.map_append,List.sum_append]
 cases h : memB false (.str t.1) (ns.map T.str) <;> simp [h]
theorem ld2_snoc (tk : List ((Str × Int × List Str) × Int)) (t : (Str × Int × List Str) × Int) (ns : List Str) : ld2 (tk ++ [t]) ns = ld2 tk ns + if memB false (.str t.1.1) (ns.map T.str) = true then t.2 else 0:=by
 unfold ld2
 rw [List.filter_append,List.map_append,List.sum_append]
 cases h : memB false (.str t.1.1) (ns.map T.str) <;> simp [h]
theorem zip_fst {α β : Type} : ∀ (a : List α) (b : List β),a.length = b.length -> (a.zip b).map (·.1) = a
 | [],[],_ => rfl
 | x :: a,y :: b,h => by rw [List.zip_cons_cons,List.map_cons,zip_fst a b (by simpa using h)]
def spTn : Sp3:=fun ts H Q => ∃ (c : Addr) (a b : Int),ts = [.ref c,.int a,.int b] /\ Cl H c /\ 1 <= a /\ a <= 5 /\ 1 <= b /\ b <= 5 /\ ∀ (tn : List Str) (H' : Hp3),Tn tn -> c1 tn = a -> c2 tn = b -> Drw c H H' -> Q (.tup (tn.map T.str)) H'
theorem cp_ins (p : Str -> Bool) (tn : List Str) (i : Nat) (z : Str) : (tn.take i ++ z :: tn.drop i).countP p = tn.countP p + if p z = true then 1 else 0:=by
 have e:=congrArg (List.countP p) (List.take_append_drop i tn)
 rw [List.countP_append] at e
 rw [List.countP_append,List.countP_cons]
 omega
theorem mem_ins {tn : List Str} {i : Nat} {z t : Str} (h : t ∈ tn.take i ++ z :: tn.drop i) : t ∈ tn \/ t = z:=by
 rcases List.mem_append.mp h with h | h
 ·
  exact .inl (List.mem_of_mem_take h)
 ·
  rcases List.mem_cons.mp h with h | h
  ·
   exact .inr h
  ·
   exact .inl (List.mem_of_mem_drop h)
theorem len_ins (tn : List Str) (i : Nat) (z : Str) : (tn.take i ++ z :: tn.drop i).length = tn.length + 1:=by
 have e:=congrArg List.length (List.take_append_drop i tn)
 rw [List.length_append] at e
 rw [List.length_append,List.length_cons]
 omega
theorem rep_cp (p : Str -> Bool) (z : Str) : ∀ n : Nat,(List.replicate n z).countP p = if p z = true then n else 0
 | 0 => by simp
 | n + 1 => by
  rw [List.replicate_succ,List.countP_cons,rep_cp p z n]
  split <;> omega
def spBt : Sp3:=fun ts H Q => ∃ (W : Wk) (zs : List Int) (D : List (List Str)) (a b cell : Int),ts = [W.enc,.tup (zs.map T.int),.tup (D.map sT),.tup [.int a,.int b],.int cell] /\ W.tasks.length <= 8 /\ W.tasks.length = zs.length /\ D.length <= 8 /\ 1 <= a /\ a <= 5 /\ 1 <= b /\ b <= 5 /\
 ∀ beat,Fits W.tasks zs beat D a b -> Q (.int beat) H
theorem sub_upn {H0 H : Hp3} {p : Addr} {o : O3} (hp : H0 p = none) (s : Sub3 H0 H) : Sub3 H0 (up3 H p o):=fun a u e => by rw [up3_ne (ne3n e hp)]; exact s a u e
theorem small_log {j : Int} (h0 : 0 < j) (h : j <= 10) : j.natAbs.log2 < 9000:=(Nat.log2_lt (by omega)).mpr (Nat.lt_of_le_of_lt (show j.natAbs <= 10 by omega) (Nat.lt_of_lt_of_le (show 10 < 2 ^ 4 by decide) (Nat.pow_le_pow_right (by decide) (by decide))))
theorem ceil_le (t m : Int) (hm : 0 < m) : t <= (t + m - 1) / m * m:=by
 have e:=Int.emod_add_mul_ediv (t + m - 1) m
 have:=Int.emod_lt_of_pos (t + m - 1) hm
 rw [Int.mul_comm] at e
 omega
noncomputable def x7 (tk : List (Str × Int × List Str)) (zs : List Int) (beat : Int) (tn ns : List Str) : List Int:=(List.replicate 7 tn).flatten.map fun t => pk (ld tk ns) (ld2 (tk.zip zs) ns) t - beat
theorem flat_map {α β : Type} (f : α -> β) (x : List α) : ∀ m : Nat,(List.replicate m (x.map f)).flatten = (List.replicate m x).flatten.map f
 | 0 => rfl
 | m + 1 => by rw [List.replicate_succ,List.replicate_succ,List.flatten_cons,List.flatten_cons,List.map_append,flat_map f x m]
def spDl : Sp3:=fun ts H Q => ∃ (W : Wk) (c : Addr),ts = [W.enc,.ref c] /\ WkOk W /\ Cl H c /\ ∀ (D : List (List Str)) (H' : Hp3),1 <= D.length -> D.length <= 8 -> Drw c H H' -> Q (.tup (D.map sT)) H'
structure Sts (c : Addr) (H0 H : Hp3) (as : List Addr) (ls : List (List Str)) : Prop where
 cl : Cl H c
 kp : Kep c H0 H
 nd : as.Nodup
 eq : as.length = ls.length
 f0 : ∀ a ∈ as,H0 a = none /\ a ≠ c
 at' : ∀ (i : Nat) (a : Addr) (l : List Str),as[i]? = some a -> ls[i]? = some l -> H a = some (.lst (l.map T.str))
theorem Sts.drw {c : Addr} {H0 H H' : Hp3} {as : List Addr} {ls : List (List Str)} (s : Sts c H0 H as ls) (d : Drw c H H') : Sts c H0 H' as ls :=
 ⟨d.cl,s.kp.drw d,s.nd,s.eq,s.f0,fun i a l h1 h2 => by rw [d.off _ (s.f0 a (List.mem_of_getElem? h1)).2]; exact s.at' i a l h1 h2⟩
theorem Sts.new {c p : Addr} {H0 H : Hp3} {as : List Addr} {ls : List (List Str)} {o : O3} (s : Sts c H0 H as ls) (hp : H p = none) : Sts c H0 (up3 H p o) as ls :=
 ⟨s.cl.new (s.cl.ne hp),s.kp.new hp,s.nd,s.eq,s.f0,fun i a l h1 h2 => by
  have e:=s.at' i a l h1 h2
  rw [up3_ne (ne3n e hp)]; exact e⟩
theorem Sts.grow {c p : Addr} {H0 H : Hp3} {as : List Addr} {ls : List (List Str)} (s : Sts c H0 H as ls) (hp : H p = none) : Sts c H0 (up3 H p (.lst [])) (as ++ [p]) (ls ++ [[]]):=by
 have hin : ∀ a ∈ as,a ≠ p:=fun a ha => by
  obtain ⟨i,hi⟩:=List.getElem?_of_mem ha
  have hl : i < ls.length:=by rw [<- s.eq]; exact (List.getElem?_eq_some_iff.mp hi).1
  exact ne3n (s.at' i a _ hi (List.getElem?_eq_getElem hl)) hp
 refine ⟨s.cl.new (s.cl.ne hp),s.kp.new hp,?_,by simp [s.eq],fun a ha => ?_,fun i a l h1 h2 => ?_⟩
 ·
  rw [List.nodup_append]
  exact ⟨s.nd,by simp,fun a ha b hb => by rw [List.mem_singleton.mp hb]; exact hin a ha⟩
 ·
  rcases List.mem_append.mp ha with h | h
  ·
   exact s.f0 a h
  ·
   rw [List.mem_singleton.mp h]
   refine ⟨?_,s.cl.ne hp⟩
   cases e : H0 p with
   | none => rfl
   | some o => rw [s.kp p o e (s.cl.ne hp)] at hp; cases hp
 ·
  by_cases hi : i < as.length
  ·
   rw [List.getElem?_append_left hi] at h1
   rw [List.getElem?_append_left (by rw [<- s.eq]; exact hi)] at h2
   rw [up3_ne (hin a (List.mem_of_getElem? h1))]
   exact s.at' i a l h1 h2
  ·
   have e1:=(List.getElem?_eq_some_iff.mp h1).1
   rw [List.length_append,List.length_singleton] at e1
   have : i = as.length:=by omega
   subst this
   rw [List.getElem?_append_right (Nat.le_refl _),Nat.sub_self] at h1
   rw [s.eq,List.getElem?_append_right (Nat.le_refl _),Nat.sub_self] at h2
   cases h1
   cases h2
   exact up3_same
theorem Sts.put {c p : Addr} {H0 H : Hp3} {as : List Addr} {ls : List (List Str)} {i : Nat} {l l' : List Str} (s : Sts c H0 H as ls) (h1 : as[i]? = some p) : Sts c H0 (up3 H p (.lst (l'.map T.str))) as (ls.set i l'):=by
 have hp:=s.f0 p (List.mem_of_getElem? h1)
 refine ⟨s.cl.new hp.2,s.kp.at hp.1,s.nd,by simp [s.eq],s.f0,fun j a m e1 e2 => ?_⟩
 have hi:=(List.getElem?_eq_some_iff.mp h1).1
 have hj:=(List.getElem?_eq_some_iff.mp e1).1
 by_cases q : j = i
 ·
  subst q
  rw [h1] at e1
  cases e1
  rw [List.getElem?_set_self (by rw [<- s.eq]; exact hi)] at e2
  cases e2
  exact up3_same
 ·
  rw [List.getElem?_set_ne (Ne.symm q)] at e2
  have hne : a ≠ p:=fun e => q (by
   subst e
   have g1:=(List.getElem?_eq_some_iff.mp h1).2
   have g2:=(List.getElem?_eq_some_iff.mp e1).2
   have pw:=List.pairwise_iff_getElem.mp s.nd
   rcases Nat.lt_trichotomy j i with q1 | q1 | q1
   ·
    exact absurd (g2.trans g1.symm) (pw j i hj hi q1)
   ·
    exact q1
   ·
    exact absurd (g1.trans g2.symm) (pw i j hi hj q1))
  rw [up3_ne hne]
  exact s.at' j a m e1 e2
end M
namespace M
open PySem PySem.Spec PyProof.Rows L2 L3
local macro_rules | `(tactic| walk_at "cp") => `(tactic| try dsimp only [cap3,List.replicate,List.map_cons,List.map_nil,List.cons_append,List.nil_append,List.getElem?_cons_zero,List.getElem?_cons_succ,Option.getD_some])
local macro_rules | `(tactic| walk_at "nx") => `(tactic| (obtain ⟨e⟩:=‹Shut (_ = _)›; subst e; try dsimp only))
local macro_rules | `(tactic| walk_at "rd") => do
 let ls <- ((nm0 ++ " q_dgP q_dgPH q_dpP q_dpPH tDGetP3 sDPutP3 tDNew3 tDNewP3 tDisp1 q_d1q tDIn3 q_diq q_diH q_iSeqV q_iEnumT q_enTq q_any q_anH q_max2 q_min2 q_rep q_rpH q_ins q_insH q_max1 q_mxH q_cnt q_repT q_tyT q_slT' q_tSlT q_revT q_rvT").splitOn " ").toArray.mapM fun n => let i:=Lean.mkIdent n.toName; `(Lean.Parser.Tactic.simpLemma| $i:ident)
 `(tactic| ((try dsimp only [$[$ls:simpLemma],*]); try simp only [*,$[$ls:simpLemma],*]))
section
variable {P : Program} {w : World} {K : PySem.W.Frag} {mg : Str -> Option Value} {base : Heap}
abbrev N_dealing : List Str:=["_law_works_here","_law_cells","_law_many","_law_stands","_law_task"]
theorem sc_dealing : FnScope N_dealing ["_law_works_here","_law_cells"] (defScope (top 31)):=sc_mk
theorem ok_dealing {f : Addr} {fd : FuncData} (g : G3 K mg "_law_dealing" (top 31) ["_law_works_here","_law_cells"] f fd) (B : Bl mg) (F_next : Cal P w K mg base 2 "_law_next" (top 21) ["_law_cells"] spNx) : Cal P w K mg base 3 "_law_dealing" (top 31) ["_law_works_here","_law_cells"] spDl:=by
 refine ⟨f,fd,g,?_⟩
 refine fn3 g.fn sc_dealing (fun ts H Q h => ?_) (fun cdv A outer s H E ts H3 Q hr h => ?_)
 ·
  obtain ⟨W,c,rfl,_⟩:=h; rfl
 ·
  have hu30:=Room.u30 hr
  have hu31:=Room.u31 hr
  have hu1:=Room.u1 hr
  obtain ⟨⟨tk,ors,prs,row⟩,c,rfl,hW,hC,k⟩:=h
  refine ⟨_,(ss3_cons (s3_set (i:=2) sc_dealing.nd (e3_op o3_add c3_int (e3_op o3_mod (e3_cl F_next hr rfl (a3_cons (v3 1) a3_nil)) c3_int)))
    (ss3_cons (s3_setC (i:=3) rfl sc_dealing.nd (compSc (n0:=(defScope (top 31)).names) (N:=N_dealing) (N':=["_law_k"]) (nt:=1) (cap:=[]) rfl rfl (by decide +kernel)) (i3_range1 rfl B.range_ (a3_cons (e3_callB (c3_min2 rfl) rfl B.min_ bt_min (a3_cons (v3 2) (a3_cons (e3_callB c3_len rfl B.len_ bt_len (a3_cons (e3_ix ix3 (v3 0) c3_int) a3_nil)) a3_nil))) a3_nil)) (fun cl pins s H C0 fp => ⟨(g3_name (i:=0) (show List.Nodup [("_law_k" : Str)] by decide +kernel)),if3_nil,(e3_lst a3_nil)⟩))
    (ss3_cons (s3_for PassesOwn.never rfl (i3_tup (e3_ix ix3 (v3 0) c3_int)) (g3_name (i:=4) sc_dealing.nd) (ss3_one (s3_expr (e3_bm PySem.F.plainAttrs_list PySem.F.slot_list_append PySem.F.type_list_append m3_append (e3_ix ix3 (v3 3) (e3_op o3_mod (e3_cl F_next hr rfl (a3_cons (v3 1) a3_nil)) (e3_callB c3_len rfl B.len_ bt_len (a3_cons (v3 3) a3_nil)))) (a3_cons (e3_ix ix3 (v3 4) c3_int) a3_nil)))))
    (ss3_one (s3_ret (e3_callTy c3_tuple rfl B.tuple_ bt_tuple (a3_cons (e3_comp rfl (compSc (n0:=(defScope (top 31)).names) (N:=N_dealing) (N':=["_law_some"]) (nt:=1) (cap:=[]) rfl rfl (by decide +kernel)) (i3_list (v3 3)) (fun cl pins s H C0 fp => ⟨(g3_name (i:=0) (show List.Nodup [("_law_some" : Str)] by decide +kernel)),if3_nil,(e3_callTy c3_tuple rfl B.tuple_ bt_tuple (a3_cons (v3 0) a3_nil))⟩)) a3_nil))))))),?_⟩
  rw [show start3 N_dealing [Wk.enc ⟨tk,ors,prs,row⟩,T.ref c] = [some (T.tup [T.tup (tk.map tkT),T.tup (ors.map orT),T.tup (prs.map prT),T.tup (row.map T.str)]),some (T.ref c),none,none,none] from rfl]
  have hsz : sizeLine = 16777216:=rfl
  have t8 : tk.length <= 8:=hW.t8
  have r1 : 1 <= row.length:=hW.r1
  have r8 : row.length <= 8:=hW.r8
  have k':=Box.mk k
  clear k
  refine seq_cut fun R0 hR0 => ?_
  walk_at "rd"
  refine ⟨c,rfl,hC,fun n H1 hD1 => ?_⟩
  walk_at "rd"
  refine ⟨by decide,?_⟩
  walk_at "nx"
  have n0:=Int.emod_nonneg n (show (8 : Int) ≠ 0 by decide)
  have n8:=Int.emod_lt_of_pos n (show (0 : Int) < 8 by decide)
  have s0 : Sts c H3 H1 [] []:=⟨hD1.cl,Kep.refl.drw hD1,List.nodup_nil,rfl,(fun _ h => nomatch h),(fun i a l h => by simp at h)⟩
  clear hC hD1
  try dsimp only
  refine seq_cut fun R1 hR1 => ?_
  walk_at "rd"
  have m1 : 1 <= (if (row.length : Int) < 1 + n % 8 then (row.length : Int) else 1 + n % 8) /\ (if (row.length : Int) < 1 + n % 8 then (row.length : Int) else 1 + n % 8) <= 8:=by split <;> omega
  generalize (if (row.length : Int) < 1 + n % 8 then (row.length : Int) else 1 + n % 8) = m at m1
  obtain ⟨m1,m8⟩:=m1
  refine ⟨trivial,by omega,by omega,?_⟩
  walk_at "cp"
  have rl : (rng3 0 m.toNat).length = m.toNat:=by unfold rng3; rw [List.length_map,List.length_range]
  generalize rng3 0 m.toNat = ts0 at rl
  refine cIter_go (fun r ys σ H => ∃ (as : List Addr) (v : Option T),σ = [v] /\ ys = as.map T.ref /\ as.length + r.length = m.toNat /\ Sts c H3 H as (List.replicate as.length [])) ⟨[],_,rfl,rfl,by rw [rl]; exact Nat.zero_add _,s0⟩ ?_ ?_
  rotate_left
  ·
   rintro x r ys σ H N ⟨as,v,rfl,rfl,hl,hs⟩ hN
   refine ⟨trivial,?_⟩
   rw [List.length_cons] at hl
   have hN':=Box.mk hN
   clear hN hR1 s0 k'
   walk_at "rd"
   refine ⟨by omega,fun p hp => ⟨by omega,hN'.out _ _ _ ⟨as ++ [p],_,rfl,by rw [List.map_append]; rfl,by rw [List.length_append,List.length_singleton]; omega,?_⟩⟩⟩
   have:=hs.grow hp
   rw [List.length_append,List.length_singleton,List.replicate_succ']
   exact this
  rintro ys σ H ⟨as,v,rfl,rfl,hl,hs⟩
  rw [List.length_nil,Nat.add_zero] at hl
  have l1 : 1 <= as.length:=by omega
  have l8 : as.length <= 8:=by omega
  clear hl
  refine ⟨trivial,by rw [List.length_map]; omega,fun ps hps => ?_⟩
  have hs2:=hs.new (o:=.lst (as.map T.ref)) hps
  have hps0 : H3 ps = none:=by
   cases e : H3 ps with
   | none => rfl
   | some o => rw [hs.kp ps o e (hs.cl.ne hps)] at hps; cases hps
  have npc : ps ≠ c:=hs.cl.ne hps
  have nas : ∀ a ∈ as,ps ≠ a:=fun a ha e => by
   subst e
   obtain ⟨i,hi⟩:=List.getElem?_of_mem ha
   have hll : i < (List.replicate as.length ([] : List Str)).length:=by rw [List.length_replicate]; exact (List.getElem?_eq_some_iff.mp hi).1
   rw [hs.at' i _ _ hi (List.getElem?_eq_getElem hll)] at hps
   cases hps
  have g0 : up3 H ps (.lst (as.map T.ref)) ps = some (.lst (as.map T.ref)):=up3_same
  generalize up3 H ps (.lst (as.map T.ref)) = H2 at hs2 g0
  clear hs hps s0 rl
  walk_at "nx"
  refine seq_cut fun R2 hR2 => ?_
  walk_at "rd"
  refine iter_pre tkT tk (fun A σ H => ∃ (ls : List (List Str)) (v4 : Option T),σ = [some (T.tup [T.tup (tk.map tkT),T.tup (ors.map orT),T.tup (prs.map prT),T.tup (row.map T.str)]),some (.ref c),some (.int (1 + n % 8)),some (.ref ps),v4] /\ Sts c H3 H as ls /\ H ps = some (.lst (as.map T.ref)) /\ ∀ l ∈ ls,l.length <= A.length) ⟨_,_,rfl,hs2,g0,fun l hl => by rw [List.eq_of_mem_replicate hl]; exact Nat.le_refl _⟩ ?_ ?_
  ·
   rintro σ H ⟨ls,v4,rfl,hs,g,hb⟩
   refine ⟨trivial,?_⟩
   walk_at "nx"
   have heq:=Box.mk hs.eq
   clear hs2 g0 hb
   walk_at "rd"
   walk_at "cp"
   refine cIter_pre T.ref as (fun A ys σ H' => ∃ v,σ = [v] /\ ys = (ls.take A.length).map sT /\ H' = H) ⟨_,rfl,rfl,rfl⟩ ?_ ?_
   ·
    rintro ys σ H' ⟨v,rfl,rfl,rfl⟩
    refine ⟨.inl g,by rw [List.length_map,List.length_take]; omega,fun p hp => ?_⟩
    rw [heq.out,List.take_length]
    have hs4:=hs.new (o:=.lst (ls.map sT)) hp
    exact fin_drw hs4.cl hs4.kp fun H'' hD => k'.out ls H'' (by rw [<- heq.out]; exact l1) (by rw [<- heq.out]; exact l8) hD
   ·
    rintro A a B ys σ H' N e ⟨v,rfl,rfl,rfl⟩ hN
    refine ⟨.inl g,?_⟩
    have hi : as[A.length]? = some a:=by rw [e]; simp
    have hil : A.length < ls.length:=by rw [<- hs.eq]; exact (List.getElem?_eq_some_iff.mp hi).1
    have gi:=List.getElem?_eq_getElem hil
    have ga:=hs.at' _ a _ hi gi
    have hN':=Box.mk hN
    have et : ls.take (A.length + 1) = ls.take A.length ++ [ls[A.length]]:=by rw [List.take_succ,gi]; rfl
    clear hN e hi gi
    walk_at "rd"
    refine ⟨?_,hN'.out _ _ _ ⟨_,rfl,?_,rfl⟩⟩
    ·
     have:=List.length_take_le A.length ls
     have:=heq.out
     first | omega | (rw [List.length_map]; omega)
    ·
     rw [List.length_append,List.length_singleton,et,List.map_append]; rfl
  ·
   rintro A t B σ H N e ⟨ls,v4,rfl,hs,g,hb⟩ hN
   refine ⟨trivial,?_⟩
   have hA : A.length + 1 <= 8:=by
    have:=congrArg List.length e
    simp only [List.length_append,List.length_cons] at this
    omega
   have hN':=Box.mk hN
   clear hN hR2 e hs2 g0 k'
   obtain ⟨nm,ln,ks⟩:=t
   simp only [tkT,sT]
   walk_at "rd"
   refine ⟨c,rfl,hs.cl,fun n2 H5 hD5 => ?_⟩
   have hs3:=hs.drw hD5
   have g2 : H5 ps = some (.lst (as.map T.ref)):=by rw [hD5.off _ npc]; exact g
   clear hs g hD5
   have al : (0 : Int) < (as.length : Int):=by omega
   obtain ⟨a,ham,ha'⟩:=at_ex as (n2 % (as.length : Int)) (Int.emod_nonneg _ (by omega)) (Int.emod_lt_of_pos _ al)
   have ha2 : atI (as.map T.ref) (n2 % (as.length : Int)) = some (T.ref a):=by rw [at_map,ha']; rfl
   obtain ⟨i,hi⟩:=List.getElem?_of_mem ham
   have hil : i < ls.length:=by rw [<- hs3.eq]; exact (List.getElem?_eq_some_iff.mp hi).1
   have gi:=List.getElem?_eq_getElem hil
   have hbl:=hb _ (List.getElem_mem hil)
   generalize ls[i] = l at gi hbl
   have ga:=hs3.at' i a l hi gi
   clear ha'
   walk_at "rd"
   refine ⟨trivial,⟨trivial,trivial⟩,by first | omega | (rw [List.length_map]; omega),hN'.out _ _ ⟨ls.set i (l ++ [nm]),_,rfl,?_,?_,?_⟩⟩
   ·
    have:=hs3.put (l:=l) (l':=l ++ [nm]) hi
    rw [List.map_append] at this
    exact this
   ·
    rw [up3_ne (nas a ham)]; exact g2
   ·
    intro m hm
    rw [List.length_append,List.length_singleton]
    rcases List.mem_or_eq_of_mem_set hm with h | h
    ·
     have:=hb m h; omega
    ·
     rw [h,List.length_append,List.length_singleton]; omega
abbrev N_others : List Str:=["_law_works_here","_law_cells","_law_found","_law_task","_law_cell","_law_near"]
theorem sc_others : FnScope N_others ["_law_works_here","_law_cells"] (defScope (top 32)):=sc_mk
theorem ok_others {f : Addr} {fd : FuncData} (g : G3 K mg "_law_others" (top 32) ["_law_works_here","_law_cells"] f fd) (B : Bl mg) (F_next : Cal P w K mg base 2 "_law_next" (top 21) ["_law_cells"] spNx) : Cal P w K mg base 3 "_law_others" (top 32) ["_law_works_here","_law_cells"] spOth:=by
 refine ⟨f,fd,g,?_⟩
 refine fn3 g.fn sc_others (fun ts H Q h => ?_) (fun cdv A outer s H E ts H3 Q hr h => ?_)
 ·
  obtain ⟨W,c,rfl,_⟩:=h; rfl
 ·
  have hu30:=Room.u30 hr
  have hu31:=Room.u31 hr
  have hu1:=Room.u1 hr
  obtain ⟨⟨tk,ors,prs,row⟩,c,rfl,hW,hC,k⟩:=h
  refine ⟨_,(ss3_cons (s3_set (i:=2) sc_others.nd (e3_lst a3_nil))
    (ss3_cons (s3_for PassesOwn.never rfl (i3_tup (e3_ix ix3 (v3 0) c3_int)) (g3_name (i:=3) sc_others.nd) (ss3_cons (s3_set (i:=4) sc_others.nd (e3_cl F_next hr rfl (a3_cons (v3 1) a3_nil)))
     (ss3_cons (s3_set (i:=5) sc_others.nd (e3_callB (c3_min2 rfl) rfl B.min_ bt_min (a3_cons (e3_op o3_sub (e3_op o3_pow c3_int c3_int) c3_int) (a3_cons (e3_callB (c3_max2 rfl) rfl B.max_ bt_max (a3_cons c3_int (a3_cons (e3_op o3_sub (e3_op o3_add (e3_ix ix3 (v3 3) c3_int) (e3_op o3_mod (e3_op o3_fdiv (v3 4) c3_int) c3_int)) c3_int) a3_nil))) a3_nil))))
     (ss3_one (s3_expr (e3_bm PySem.F.plainAttrs_list PySem.F.slot_list_append PySem.F.type_list_append m3_append (v3 2) (a3_cons (e3_ix ix3 (e3_lst (a3_cons c3_int (a3_cons (e3_op o3_mod (e3_op o3_fdiv (v3 4) c3_int) (e3_op o3_pow c3_int c3_int)) (a3_cons (v3 5) (a3_cons (e3_op o3_fdiv (e3_ix ix3 (v3 3) c3_int) c3_int) a3_nil))))) (e3_op o3_mod (v3 4) c3_int)) a3_nil)))))))
    (ss3_one (s3_ret (e3_callTy c3_tuple rfl B.tuple_ bt_tuple (a3_cons (v3 2) a3_nil)))))),?_⟩
  rw [show start3 N_others [Wk.enc ⟨tk,ors,prs,row⟩,T.ref c] = [some (T.tup [T.tup (tk.map tkT),T.tup (ors.map orT),T.tup (prs.map prT),T.tup (row.map T.str)]),some (T.ref c),none,none,none,none] from rfl]
  have hsz : sizeLine = 16777216:=rfl
  have t8 : tk.length <= 8:=hW.t8
  replace k : ∀ (zs : List Int) (H' : Hp3),zs.length = tk.length -> Drw c H3 H' -> Q (.tup (zs.map T.int)) H':=k
  have k':=Box.mk k
  clear k
  have w0 : Wt c H3 H3 []:=⟨hC,Kep.refl,(fun _ h => nomatch h)⟩
  refine seq_cut fun R0 hR0 => ?_
  walk_at "rd"
  refine ⟨by omega,fun po hpo => ?_⟩
  have hpo0:=w0.fresh hpo
  have w1:=w0.new (o:=.lst []) hpo
  generalize up3 H3 po (.lst []) = H1 at w1
  clear w0 hpo hC
  walk_at "nx"
  refine seq_cut fun R1 hR1 => ?_
  walk_at "rd"
  refine iter_pre tkT tk (fun A σ H => ∃ (zs : List Int) (v3 v4 v5 : Option T),σ = [some (T.tup [T.tup (tk.map tkT),T.tup (ors.map orT),T.tup (prs.map prT),T.tup (row.map T.str)]),some (.ref c),some (.ref po),v3,v4,v5] /\ zs.length = A.length /\ Wt c H3 H [(po,.lst (zs.map T.int))]) ⟨[],_,_,_,rfl,rfl,w1⟩ ?_ ?_
  ·
   rintro σ H ⟨zs,v3,v4,v5,rfl,hzl,w⟩
   refine ⟨trivial,?_⟩
   walk_at "nx"
   have g:=w.hd
   walk_at "rd"
   exact fin_drw w.cl w.kp fun H'' hD => k'.out zs H'' hzl hD
  ·
   rintro A t B σ H N e ⟨zs,v3,v4,v5,rfl,hzl,w⟩ hN
   refine ⟨trivial,?_⟩
   have hA : A.length + 1 <= 8:=by
    have:=congrArg List.length e
    simp only [List.length_append,List.length_cons] at this
    omega
   have hN':=Box.mk hN
   clear hN e hR1 w1
   obtain ⟨nm,ln,ks⟩:=t
   refine seq_cut fun R4 hR4 => ?_
   simp only [tkT,sT]
   walk_at "rd"
   refine ⟨c,rfl,w.cl,fun n H5 hD5 => ?_⟩
   have w2:=w.drw hD5
   clear w hD5
   walk_at "nx"
   refine seq_cut fun R5 hR5 => ?_
   walk_at "rd"
   refine ⟨⟨by decide,by decide,by decide⟩,⟨by decide,by decide +kernel⟩,by decide,?_⟩
   generalize (if (if ln + n / 4 % 7 - 3 > 0 then ln + n / 4 % 7 - 3 else 0) < 10 ^ Int.toNat 60 - 1 then (if ln + n / 4 % 7 - 3 > 0 then ln + n / 4 % 7 - 3 else 0) else 10 ^ Int.toNat 60 - 1) = near
   walk_at "nx"
   have g2:=w2.hd
   obtain ⟨z,_,hz'⟩:=at_ex ([0,n / 4 % 10 ^ Int.toNat 60,near,ln / 2] : List Int) (n % 4) (Int.emod_nonneg _ (by decide)) (Int.emod_lt_of_pos _ (by decide))
   have hz2 : atI [T.int 0,T.int (n / 4 % 10 ^ Int.toNat 60),T.int near,T.int (ln / 2)] (n % 4) = some (T.int z):=by
    have:=at_map T.int ([0,n / 4 % 10 ^ Int.toNat 60,near,ln / 2] : List Int) (n % 4)
    rw [hz'] at this
    exact this
   clear hz'
   walk_at "rd"
   refine ⟨⟨trivial,trivial⟩,⟨by decide,by decide +kernel⟩,⟨by decide,by decide,by decide⟩,by decide,⟨by decide,by decide +kernel⟩,by decide,fun p hp => ⟨by decide,?_⟩⟩
   have w3:=(w2.new (o:=.lst [T.int 0,T.int (n / 4 % 10 ^ Int.toNat 60),T.int near,T.int (ln / 2)]) hp).tl
   generalize up3 H5 p (.lst [T.int 0,T.int (n / 4 % 10 ^ Int.toNat 60),T.int near,T.int (ln / 2)]) = H6 at w3
   have g3:=w3.hd
   clear hz2 g2 w2 hp
   walk_at "rd"
   refine ⟨by omega,hN'.out _ _ ⟨zs ++ [z],_,_,_,rfl,by simp [hzl],?_⟩⟩
   have w4:=w3.set hpo0 (fun _ h => nomatch h) (.lst (zs.map T.int ++ [T.int z]))
   rw [List.map_append]; exact w4
abbrev N_loads : List Str:=["_law_works_here","_law_others_here","_law_tasks_here","_law_loads_here","_law_task","_law_other"]
theorem sc_loads : FnScope N_loads ["_law_works_here","_law_others_here","_law_tasks_here"] (defScope (top 33)):=sc_mk
theorem ok_loads {f : Addr} {fd : FuncData} (g : G3 K mg "_law_loads" (top 33) ["_law_works_here","_law_others_here","_law_tasks_here"] f fd) (B : Bl mg) : Cal P w K mg base 1 "_law_loads" (top 33) ["_law_works_here","_law_others_here","_law_tasks_here"] spLl:=by
 refine ⟨f,fd,g,?_⟩
 refine fn3 g.fn sc_loads (fun ts H Q h => ?_) (fun cdv A outer s H E ts H3 Q hr h => ?_)
 ·
  obtain ⟨W,zs,ns,rfl,_⟩:=h; rfl
 ·
  have hu30:=Room.u30 hr
  have hu31:=Room.u31 hr
  have hu1:=Room.u1 hr
  obtain ⟨⟨tk,ors,prs,row⟩,zs,ns,rfl,t8,hl,k⟩:=h
  refine ⟨_,(ss3_cons (s3_set (i:=3) sc_loads.nd (e3_lst (a3_cons c3_int (a3_cons c3_int a3_nil))))
    (ss3_cons (s3_for PassesOwn.never rfl (i3_zip rfl B.zip_ (a3_cons (e3_ix ix3 (v3 0) c3_int) (a3_cons (v3 1) a3_nil))) (g3_tup (n:=2) rfl (gs3_cons (g3_name (i:=4) sc_loads.nd) (gs3_cons (g3_name (i:=5) sc_loads.nd) gs3_nil))) (ss3_one (s3_if (t3_cmp (o3_in hu31) (e3_ix ix3 (v3 4) c3_int) (v3 2) rfl) (ss3_cons (s3_asg (e3_op o3_add (e3_ix ix3 (v3 3) c3_int) (e3_ix ix3 (v3 4) c3_int)) (g3_sub (v3 3) c3_int set3_list))
      (ss3_one (s3_asg (e3_op o3_add (e3_ix ix3 (v3 3) c3_int) (v3 5)) (g3_sub (v3 3) c3_int set3_list)))) ss3_nil)))
    (ss3_one (s3_ret (v3 3))))),?_⟩
  rw [show start3 N_loads [Wk.enc ⟨tk,ors,prs,row⟩,T.tup (zs.map T.int),T.tup (ns.map T.str)] = [some (T.tup [T.tup (tk.map tkT),T.tup (ors.map orT),T.tup (prs.map prT),T.tup (row.map T.str)]),some (T.tup (zs.map T.int)),some (T.tup (ns.map T.str)),none,none,none] from rfl]
  have hsz : sizeLine = 16777216:=rfl
  replace t8 : tk.length <= 8:=t8
  replace hl : tk.length = zs.length:=hl
  replace k : ∀ p,H3 p = none -> Q (.ref p) (up3 H3 p (.lst [.int (ld tk ns),.int (ld2 (tk.zip zs) ns)])):=k
  have k':=Box.mk k
  clear k
  refine seq_cut fun R0 hR0 => ?_
  walk_at "rd"
  refine ⟨by omega,fun p hp => ?_⟩
  walk_at "nx"
  refine seq_cut fun R1 hR1 => ?_
  walk_at "rd"
  rw [zip_pT]
  refine iter_pre pT (tk.zip zs) (fun A σ H => ∃ (v4 v5 : Option T),σ = [some (T.tup [T.tup (tk.map tkT),T.tup (ors.map orT),T.tup (prs.map prT),T.tup (row.map T.str)]),some (.tup (zs.map T.int)),some (.tup (ns.map T.str)),some (.ref p),v4,v5] /\ H = up3 H3 p (.lst [.int (ld (A.map (·.1)) ns),.int (ld2 A ns)])) ⟨_,_,rfl,rfl⟩ ?_ ?_
  ·
   rintro σ H ⟨v4,v5,rfl,rfl⟩
   refine ⟨trivial,?_⟩
   walk_at "nx"
   rw [zip_fst _ _ hl]
   walk_at "rd"
   exact Fin3.of Sub3.refl (k'.out p hp)
  ·
   rintro A q B σ H N e ⟨v4,v5,rfl,rfl⟩ hN
   refine ⟨trivial,?_⟩
   obtain ⟨⟨nm,ln,ks⟩,ot⟩:=q
   have s1:=ld_snoc (A.map (·.1)) (nm,ln,ks) ns
   have s2:=ld2_snoc A ((nm,ln,ks),ot) ns
   have hN':=Box.mk (hN [some (T.tup [T.tup (tk.map tkT),T.tup (ors.map orT),T.tup (prs.map prT),T.tup (row.map T.str)]),some (.tup (zs.map T.int)),some (.tup (ns.map T.str)),some (.ref p),some (tkT (nm,ln,ks)),some (.int ot)] (up3 H3 p (.lst [.int (ld ((A ++ [((nm,ln,ks),ot)]).map (·.1)) ns),.int (ld2 (A ++ [((nm,ln,ks),ot)]) ns)])) ⟨_,_,rfl,rfl⟩)
   rw [List.map_append,List.map_singleton] at hN'
   rw [s1,s2] at hN'
   generalize ld (A.map (·.1)) ns = x1 at hN'
   generalize ld2 A ns = x2 at hN'
   clear hN e k' hR1 s1 s2
   simp only [pT,tkT,sT]
   walk_at "rd"
   refine ⟨trivial,rfl,pl_strs ns,?_⟩
   cases hb : memB false (T.str nm) (List.map T.str ns)
   ·
    rw [hb] at hN'
    simp only [Bool.false_eq_true,if_false,Int.add_zero] at hN' ⊢
    exact hN'.out
   ·
    rw [hb] at hN'
    simp only [if_true] at hN' ⊢
    rw [show ixN (1 + 1) 1 = some 1 from rfl,q_oq]
    exact hN'.out
abbrev N_beat : List Str:=["_law_works_here","_law_others_here","_law_dealing_here","_law_mix","_law_cell","_law_many","_law_needs","_law_tasks_here","_law_loads_here","_law_total","_law_most","_law_room"]
theorem sc_beat : FnScope N_beat ["_law_works_here","_law_others_here","_law_dealing_here","_law_mix","_law_cell"] (defScope (top 34)):=sc_mk
theorem ok_beat {f : Addr} {fd : FuncData} (g : G3 K mg "_law_beat" (top 34) ["_law_works_here","_law_others_here","_law_dealing_here","_law_mix","_law_cell"] f fd) (B : Bl mg) (F_loads : Cal P w K mg base 1 "_law_loads" (top 33) ["_law_works_here","_law_others_here","_law_tasks_here"] spLl) : Cal P w K mg base 2 "_law_beat" (top 34) ["_law_works_here","_law_others_here","_law_dealing_here","_law_mix","_law_cell"] spBt:=by
 refine ⟨f,fd,g,?_⟩
 refine fn3 g.fn sc_beat (fun ts H Q h => ?_) (fun cdv A outer s H E ts H3 Q hr h => ?_)
 ·
  obtain ⟨W,zs,D,a,b,cell,rfl,_⟩:=h; rfl
 ·
  have hu30:=Room.u30 hr
  have hu31:=Room.u31 hr
  have hu1:=Room.u1 hr
  obtain ⟨⟨tk,ors,prs,row⟩,zs,D,a,b,cell,rfl,t8,hl,d8,a1,a5,b1,b5,k⟩:=h
  refine ⟨_,(ss3_cons (s3_set (i:=5) sc_beat.nd (e3_op o3_add (e3_ix ix3 (v3 3) c3_int) (e3_ix ix3 (v3 3) c3_int)))
    (ss3_cons (s3_set (i:=6) sc_beat.nd (e3_lst (a3_cons c3_int a3_nil)))
    (ss3_cons (s3_for PassesOwn.never rfl (i3_tup (v3 2)) (g3_name (i:=7) sc_beat.nd) (ss3_cons (s3_set (i:=8) sc_beat.nd (e3_cl F_loads hr rfl (a3_cons (v3 0) (a3_cons (v3 1) (a3_cons (v3 7) a3_nil)))))
     (ss3_cons (s3_set (i:=9) sc_beat.nd (e3_op o3_add (e3_op o3_mul (e3_ix ix3 (v3 8) c3_int) (e3_ix ix3 (v3 3) c3_int)) (e3_op o3_mul (e3_ix ix3 (v3 8) c3_int) (e3_ix ix3 (v3 3) c3_int))))
     (ss3_one (s3_expr (e3_bm PySem.F.plainAttrs_list PySem.F.slot_list_append PySem.F.type_list_append m3_append (v3 6) (a3_cons (e3_op o3_fdiv (e3_op o3_sub (e3_op o3_add (v3 9) (v3 5)) c3_int) (v3 5)) a3_nil)))))))
    (ss3_cons (s3_set (i:=10) sc_beat.nd (e3_callB (c3_max1 rfl) rfl B.max_ bt_max (a3_cons (v3 6) a3_nil)))
    (ss3_cons (s3_set (i:=11) sc_beat.nd (e3_op o3_fdiv (v3 10) c3_int))
    (ss3_one (s3_ret (e3_op o3_add (v3 10) (e3_ix ix3 (e3_lst (a3_cons c3_int (a3_cons c3_int (a3_cons c3_int (a3_cons (v3 11) (a3_cons (e3_op o3_mod (e3_op o3_fdiv (v3 4) c3_int) (e3_op o3_add (v3 11) c3_int)) a3_nil)))))) (e3_op o3_mod (v3 4) c3_int)))))))))),?_⟩
  rw [show start3 N_beat [Wk.enc ⟨tk,ors,prs,row⟩,T.tup (zs.map T.int),T.tup (D.map sT),T.tup [T.int a,T.int b],T.int cell] = [some (T.tup [T.tup (tk.map tkT),T.tup (ors.map orT),T.tup (prs.map prT),T.tup (row.map T.str)]),some (T.tup (zs.map T.int)),some (T.tup (D.map sT)),some (T.tup [T.int a,T.int b]),some (T.int cell),none,none,none,none,none,none,none] from rfl]
  have hsz : sizeLine = 16777216:=rfl
  replace t8 : tk.length <= 8:=t8
  replace hl : tk.length = zs.length:=hl
  replace k : ∀ beat,Fits tk zs beat D a b -> Q (.int beat) H3:=k
  have k':=Box.mk k
  clear k
  refine seq_cut fun R0 hR0 => ?_
  walk_at "rd"
  walk_at "nx"
  refine seq_cut fun R1 hR1 => ?_
  walk_at "rd"
  refine ⟨by omega,fun pn hpn => ?_⟩
  walk_at "nx"
  refine seq_cut fun R2 hR2 => ?_
  walk_at "rd"
  refine iter_pre sT D (fun A σ H => ∃ (ls : List Int) (v7 v8 v9 : Option T),σ = [some (T.tup [T.tup (tk.map tkT),T.tup (ors.map orT),T.tup (prs.map prT),T.tup (row.map T.str)]),some (.tup (zs.map T.int)),some (.tup (D.map sT)),some (.tup [.int a,.int b]),some (.int cell),some (.int (a + b)),some (.ref pn),v7,v8,v9,none,none] /\ Sub3 H3 H /\ H pn = some (.lst (ls.map T.int)) /\ 0 ∈ ls /\ ls.length = A.length + 1 /\ ∀ ns ∈ A,∃ m ∈ ls,a * ld tk ns + b * ld2 (tk.zip zs) ns <= m * (a + b))
   ⟨[0],_,_,_,rfl,Sub3.new hpn,up3_same,by simp,rfl,(fun _ h => nomatch h)⟩ ?_ ?_
  ·
   rintro σ H ⟨ls,v7,v8,v9,rfl,hS,g,h0,hll,hm⟩
   refine ⟨trivial,?_⟩
   walk_at "nx"
   have hm':=Box.mk hm
   have h0':=Box.mk h0
   clear hm h0 hll
   try dsimp only
   refine seq_cut fun R3 hR3 => ?_
   walk_at "rd"
   first | rw [ints3_map,q_oq] | skip
   refine ⟨(fun e0 => by have:=h0'.out; rw [e0] at this; exact (nomatch this)),fun M hM hMx => ?_⟩
   have hM0 : 0 <= M:=hMx 0 h0'.out
   walk_at "nx"
   refine seq_cut fun R4 hR4 => ?_
   walk_at "rd"
   refine ⟨⟨by decide,by decide +kernel⟩,?_⟩
   have r0 : 0 <= M / 8:=Int.ediv_nonneg hM0 (by decide)
   generalize M / 8 = room at r0
   walk_at "nx"
   have e0 : 0 <= cell / 8 % (room + 1):=Int.emod_nonneg _ (by omega)
   obtain ⟨z,hzm,hz'⟩:=at_ex ([0,0,1,room,cell / 8 % (room + 1)] : List Int) (cell % 5) (Int.emod_nonneg _ (by decide)) (Int.emod_lt_of_pos _ (by decide))
   have hz0 : 0 <= z:=by
    simp only [List.mem_cons,List.not_mem_nil,or_false] at hzm
    rcases hzm with h | h | h | h | h <;> omega
   have hz2 : atI [T.int 0,T.int 0,T.int 1,T.int room,T.int (cell / 8 % (room + 1))] (cell % 5) = some (T.int z):=by
    have:=at_map T.int ([0,0,1,room,cell / 8 % (room + 1)] : List Int) (cell % 5)
    rw [hz'] at this
    exact this
   clear hz' hzm
   walk_at "rd"
   refine ⟨⟨by decide,by decide +kernel⟩,by omega,by decide,fun q hq => ⟨by decide,?_⟩⟩
   try rw [hz2,q_oq]
   refine Fin3.of (hS.trans (Sub3.new hq)) (k'.out _ fun ns hns => ?_)
   obtain ⟨m,hml,hmt⟩:=hm'.out ns hns
   have h1:=Int.mul_le_mul_of_nonneg_right (hMx m hml) (show 0 <= a + b by omega)
   have h2:=Int.mul_nonneg hz0 (show 0 <= a + b by omega)
   rw [Int.add_mul]
   omega
  ·
   rintro A ns B σ H N e ⟨ls,v7,v8,v9,rfl,hS,g,h0,hll,hm⟩ hN
   refine ⟨trivial,?_⟩
   have hA : A.length + 1 <= 8:=by
    have:=congrArg List.length e
    simp only [List.length_append,List.length_cons] at this
    omega
   have hN':=Box.mk hN
   have hm':=Box.mk hm
   have h0':=Box.mk h0
   clear hN hR2 e hm h0
   refine seq_cut fun R4 hR4 => ?_
   simp only [sT]
   walk_at "rd"
   refine ⟨⟨tk,ors,prs,row⟩,zs,ns,rfl,t8,hl,fun pl hpl => ?_⟩
   try dsimp only
   have g2:=up3_ne (H:=H) (o:=.lst [.int (ld tk ns),.int (ld2 (tk.zip zs) ns)]) (ne3n g hpl)
   rw [g] at g2
   have hS2:=hS.trans (Sub3.new (o:=.lst [.int (ld tk ns),.int (ld2 (tk.zip zs) ns)]) hpl)
   have g1 : up3 H pl (.lst [.int (ld tk ns),.int (ld2 (tk.zip zs) ns)]) pl = some (.lst [.int (ld tk ns),.int (ld2 (tk.zip zs) ns)]):=up3_same
   generalize up3 H pl (.lst [.int (ld tk ns),.int (ld2 (tk.zip zs) ns)]) = H2 at g1 g2 hS2
   clear hS g hpl
   walk_at "nx"
   walk_at "rd"
   refine ⟨.inr ⟨by omega,by omega⟩,.inr ⟨by omega,by omega⟩,⟨trivial,trivial⟩,⟨by omega,small_log (by omega) (by omega)⟩,by omega,hN'.out _ _ ⟨ls ++ [(ld tk ns * a + ld2 (tk.zip zs) ns * b + (a + b) - 1) / (a + b)],_,_,_,rfl,sub_upn hpn hS2,by rw [up3_same,List.map_append]; rfl,List.mem_append_left _ h0'.out,by simp [hll],?_⟩⟩
   intro ms hms
   rcases List.mem_append.mp hms with h | h
   ·
    obtain ⟨m,hml,hmt⟩:=hm'.out ms h
    exact ⟨m,List.mem_append_left _ hml,hmt⟩
   ·
    rw [List.mem_singleton.mp h]
    refine ⟨_,List.mem_append_right _ (List.mem_singleton.mpr rfl),?_⟩
    have:=ceil_le (ld tk ns * a + ld2 (tk.zip zs) ns * b) (a + b) (by omega)
    rw [Int.mul_comm a,Int.mul_comm b]
    exact this
end
end M
namespace M
open PySem PySem.Spec PyProof.Rows L2 L3
noncomputable def xs1 (tk : List (Str × Int × List Str)) (zs : List Int) (beat : Int) (ns tn : List Str) : List Int:=tn.map fun t => pk (ld tk ns) (ld2 (tk.zip zs) ns) t - beat
theorem S2W_run (tk : List (Str × Int × List Str)) (zs : List Int) (beat : Int) (tn ns : List Str) : S2W tk zs beat tn ns = run (List.replicate 2 (xs1 tk zs beat ns tn)).flatten 0 0:=by
 unfold S2W S2 xs1
 rw [List.map_append,List.map_map,show (2 : Nat) = 1 + 1 from rfl,List.replicate_succ,List.replicate_one,List.flatten_cons,List.flatten_cons,List.flatten_nil,List.append_nil]
 rfl
theorem xs1_sum (tk : List (Str × Int × List Str)) (zs : List Int) (beat : Int) (ns : List Str) : ∀ tn : List Str,(∀ t ∈ tn,t = "one" \/ t = "other") -> (xs1 tk zs beat ns tn).sum = c1 tn * ld tk ns + c2 tn * ld2 (tk.zip zs) ns - beat * (c1 tn + c2 tn)
 | [],_ => by simp [xs1,c1,c2]
 | t :: tn,h => by
  have ih:=xs1_sum tk zs beat ns tn fun t ht => h t (List.mem_cons_of_mem _ ht)
  unfold xs1 c1 c2 at ih ⊢
  rw [List.map_cons,List.sum_cons,ih,List.countP_cons,List.countP_cons]
  generalize (List.countP (fun t : Str => t == ("one" : Str)) tn) = a
  generalize (List.countP (fun t : Str => t == ("other" : Str)) tn) = b
  generalize ld tk ns = x
  generalize ld2 (tk.zip zs) ns = y
  rcases h t List.mem_cons_self with rfl | rfl
  ·
   rw [show pk x y "one" = x from if_neg (by decide +kernel),if_pos (by decide +kernel),if_neg (by decide +kernel)]
   simp only [Int.natCast_add,Int.natCast_one,Nat.add_zero,Int.add_mul,Int.mul_add,Int.one_mul,Int.mul_one]
   omega
  ·
   rw [show pk x y "other" = y from if_pos rfl,if_neg (by decide +kernel),if_pos (by decide +kernel)]
   simp only [Int.natCast_add,Int.natCast_one,Nat.add_zero,Int.add_mul,Int.mul_add,Int.one_mul,Int.mul_one]
   omega
theorem top2 {tk : List (Str × Int × List Str)} {zs : List Int} {beat : Int} {tn ns : List Str} {D : List (List Str)} (h : Tn tn) (hf : Fits tk zs beat D (c1 tn) (c2 tn)) (hn : ns ∈ D) {m : Nat} (hm : 2 <= m) : Top (per (xs1 tk zs beat ns tn)) (run (List.replicate m (xs1 tk zs beat ns tn)).flatten 0 0):=by
 refine run_top hm (by unfold xs1; rw [List.length_map]; exact h.n) ?_
 rw [xs1_sum _ _ _ _ _ h.w]
 have:=hf ns hn
 omega
theorem fold_mx (L : List Int) (g : Int) : g <= L.foldl mxI g /\ (∀ a ∈ L,a <= L.foldl mxI g) /\ (L.foldl mxI g = g \/ L.foldl mxI g ∈ L):=by
 induction L generalizing g with
 | nil => exact ⟨Int.le_refl _,(fun _ h => nomatch h),.inl rfl⟩
 | cons x L ih =>
  obtain ⟨h1,h2,h3⟩:=ih (mxI g x)
  refine ⟨Int.le_trans (mxI_l _ _) h1,fun a ha => ?_,?_⟩
  ·
   rcases List.mem_cons.mp ha with rfl | ha
   ·
    exact Int.le_trans (mxI_r _ _) h1
   ·
    exact h2 a ha
  ·
   rw [List.foldl_cons]
   rcases h3 with h3 | h3
   ·
    rcases mxI_or g x with e | e
    ·
     exact .inl (by rw [h3,e])
    ·
     exact .inr (by rw [h3,e]; exact List.mem_cons_self)
   ·
    exact .inr (List.mem_cons_of_mem _ h3)
theorem run_mx (l : List Int) (g : Int) (h : 0 <= g) : run l 0 g = mxI g (run l 0 0):=by
 have e : mxI g 0 = g:=by unfold mxI; rw [if_neg (by omega)]
 rw [<- run_from,e]
noncomputable def rel (g : Int -> Int) (t : Str × Int × List Str) : Str × Int × List Str:=(t.1,g t.2.1,t.2.2)
theorem b60 : (10 : Int) ^ 60 = 1000000000000000000000000000000000000000000000000000000000000:=by decide
theorem g8 (l : Int) (h1 : 1 <= l) (h2 : l < 10 ^ 60) : 1 <= 1 + l / 8 /\ 1 + l / 8 < 10 ^ 60:=by rw [b60] at *; omega
theorem WkOk.rel {tk : List (Str × Int × List Str)} {ors : List (Str × Str)} {prs : List (Str × Str × Str)} {row : List Str} (h : WkOk ⟨tk,ors,prs,row⟩) (g : Int -> Int) (hg : ∀ l,1 <= l -> l < 10 ^ 60 -> 1 <= g l /\ g l < 10 ^ 60) : WkOk ⟨tk.map (M.rel g),ors,prs,row⟩:=by
 obtain ⟨h1,h2,h3,h4,h5,h6,h7,h8,h9,h10,h11,h12,h13⟩:=h
 have e : (tk.map (M.rel g)).map (·.1) = tk.map (·.1):=by rw [List.map_map]; rfl
 refine ⟨by show 1 <= (tk.map (M.rel g)).length; rw [List.length_map]; exact h1,by show (tk.map (M.rel g)).length <= 8; rw [List.length_map]; exact h2,fun t ht => ?_,by show ((tk.map (M.rel g)).map (·.1)).Nodup; rw [e]; exact h4,h5,h6,fun o ho => ?_,h8,h9,fun p hp => ?_,h11,h12,h13⟩
 ·
  obtain ⟨u,hu,rfl⟩:=List.mem_map.mp ht
  obtain ⟨a,b,c,d,f⟩:=h3 u hu
  exact ⟨a,(hg _ b c).1,(hg _ b c).2,d,f⟩
 ·
  show _ /\ o.1 ∈ (tk.map (M.rel g)).map (·.1) /\ o.2 ∈ (tk.map (M.rel g)).map (·.1)
  rw [e]; exact h7 o ho
 ·
  show _ /\ _ /\ p.2.1 ∈ (tk.map (M.rel g)).map (·.1) /\ p.2.2 ∈ (tk.map (M.rel g)).map (·.1)
  rw [e]; exact h10 p hp
end M
set_option maxHeartbeats 2000000
namespace L3
open PySem PySem.Spec PyProof.Rows L2
def LtAt (A : Around) (s : Shared) (y x : Value) (b : Bool) : Prop :=
 ∀ (P : Program) (w : World) (E Q : Value -> Shared -> Prop),Q (.bool b) s -> wpAny (model P w) A (richCompare .Lt y x) Q E s
noncomputable def lexB (e l : Nat -> Bool) (fin : Bool) : List Nat -> Bool
 | [] => fin
 | i :: r => if e i = true then lexB e l fin r else l i
theorem range_drop {n i : Nat} (h : i < n) : (List.range n).drop i = i :: (List.range n).drop (i + 1):=by
 rw [List.drop_eq_getElem_cons (by simpa using h)]; simp
theorem tup_lt (a b : Addr) (xs ys : Array Value) (n k : Nat) (da db : Option Addr) (sa sb : Array (Option Value)) (e l : Nat -> Bool) : Meets (Builtin.«tuple.__lt__» ⟨[.ref a,.ref b],[]⟩) fun A R s =>
  s.heap.get? a = some ⟨.type "tuple",da,.seq xs n,sa⟩ /\ s.heap.get? b = some ⟨.type "tuple",db,.seq ys k,sb⟩ /\ (∀ j (h1 : j < xs.size) (h2 : j < ys.size),SeqAt.EqAt A.in1 s xs[j] ys[j] (e j)) /\
  (∀ j (h1 : j < xs.size) (h2 : j < ys.size),e j = false -> LtAt A.in1 s xs[j] ys[j] (l j)) /\ R (.ok (.ret (.bool (lexB e l (decide (xs.size < ys.size)) (List.range (min xs.size ys.size)))))) s:=by
 refine .of_wp fun P w A R s h => ?_
 obtain ⟨hp,g,d,tk,os⟩:=s
 obtain ⟨ha,hb,he,hl,h⟩:=h
 have sub:=AutoSeq1.sub_tuple_tuple
 have hz : (xs.toList.zip ys.toList).length = min xs.size ys.size:=by simp
 wp_walk using AutoSeq1.wpAny_loadPart' ha,AutoSeq1.wpAny_loadPart' hb,wpAny_forIn_list _ (fun rest c s' => c.1 = none /\ s' = ⟨hp,g,d,tk,os⟩ /\ ∃ i,rest = (xs.toList.zip ys.toList).drop i /\
  R (.ok (.ret (.bool (lexB e l (decide (xs.size < ys.size)) ((List.range (min xs.size ys.size)).drop i))))) ⟨hp,g,d,tk,os⟩) _
 case turn =>
  rintro ⟨y,x⟩ rest c s' ⟨hc,rfl,i,hr,hR⟩
  have hi : i < (xs.toList.zip ys.toList).length:=by
   rcases Nat.lt_or_ge i (xs.toList.zip ys.toList).length with q | q
   ·
    exact q
   ·
    rw [List.drop_of_length_le q] at hr; cases hr
  have hm : i < min xs.size ys.size:=hz ▸ hi
  have i1 : i < xs.size:=by omega
  have i2 : i < ys.size:=by omega
  rw [List.drop_eq_getElem_cons hi] at hr
  injection hr with hyx hrest
  have q1 : y = xs[i]:=by simpa using congrArg Prod.fst hyx
  have q2 : x = ys[i]:=by simpa using congrArg Prod.snd hyx
  subst q1 q2
  rw [range_drop hm] at hR
  refine wpAny_bind (he i i1 i2 P w _ _ ?_)
  cases hy : e i with
  | true =>
   unfold lexB at hR
   rw [if_pos hy] at hR
   wp_walk
   exact ⟨rfl,rfl,i + 1,hrest,hR⟩
  | false =>
   unfold lexB at hR
   rw [if_neg (by rw [hy]; decide)] at hR
   have hL:=hl i i1 i2 hy
   have hL' : ∀ {E Q : Value -> Shared -> Prop},Q (.bool (l i)) ⟨hp,g,d,tk,os⟩ -> wpAny (model P w) A.in1 (richCompare .Lt xs[i] ys[i]) Q E ⟨hp,g,d,tk,os⟩:=fun {E Q} => hL P w E Q
   wp_walk using hL'
   exact ⟨_,rfl,hR⟩
 case fin =>
  rintro ⟨c1,c2⟩ s' ⟨hc,rfl,i,hr,hR⟩
  simp only at hc
  subst hc
  have hge : min xs.size ys.size <= i:=by
   rcases Nat.lt_or_ge i (min xs.size ys.size) with q | q
   ·
    have:=congrArg List.length hr
    simp at this
    omega
   ·
    exact q
  rw [List.drop_of_length_le (by simpa using hge)] at hR
  wp_walk
  exact ⟨_,rfl,by simpa [Builtin.Tuple.tupleCompareSizes,lexB] using hR⟩
 case h => exact ⟨rfl,rfl,0,rfl,by simpa using h⟩
section
variable {A : Around} {s : Shared}
theorem LtAt.tups {a b : Addr} {xs ys : Array Value} {e l : Nat -> Bool} (ha : s.heap.IsTuple a xs) (hb : s.heap.IsTuple b ys) (hu : A.units < cLine) (he : ∀ j (h1 : j < xs.size) (h2 : j < ys.size),SeqAt.EqAt A.in1 s xs[j] ys[j] (e j))
  (hl : ∀ j (h1 : j < xs.size) (h2 : j < ys.size),e j = false -> LtAt A.in1 s xs[j] ys[j] (l j)) : LtAt A s (.ref a) (.ref b) (lexB e l (decide (xs.size < ys.size)) (List.range (min xs.size ys.size))):=by
 intro P w E Q h
 obtain ⟨⟨c1,d1,t1,z1⟩,o1,k1,n1,q1⟩:=id ha
 obtain ⟨⟨c2,d2,t2,z2⟩,o2,k2,n2,q2⟩:=id hb
 dsimp only at k1 q1 k2 q2
 subst k1 q1 k2 q2
 refine richCompare_meets_room (op:=.Lt) ⟨_,o1,rfl⟩ ⟨_,o2,rfl⟩ F.slot_tuple_lt F.entry_tuple_lt (F.args_tuple_lt_2 _ _) (tup_lt a b xs ys n1 n2 d1 d2 z1 z2 e l) ⟨o1,o2,he,hl,?_⟩ hu
 exact show Value.bool _ ≠ Value.notImplemented /\ Q (.bool _) s from ⟨(fun x => nomatch x),h⟩
theorem LtAt.ints (i j : Int) (t u : Tok) : LtAt A s (.int i t) (.int j u) (decide (i < j)):=fun P w E Q h => (wpAny_lt_int h : wpAny (model P w) A (compareOp .Lt _ _) Q E s)
theorem LtAt.strs (i j : Str) (t u : Tok) : LtAt A s (.str i t) (.str j u) (decide (i.cps.toList < j.cps.toList)):=fun P w E Q h => (PyProof.Rows.lt_str h : wpAny (model P w) A (compareOp .Lt _ _) Q E s)
end
mutual
noncomputable def ltB : T -> T -> Bool
 | .int a,y => match y with
  | .int b => decide (a < b)
  | _ => false
 | .str a,y => match y with
  | .str b => decide (a.cps.toList < b.cps.toList)
  | _ => false
 | .tup xs,y => match y with
  | .tup ys => lexL xs ys
  | _ => false
 | _,_ => false
noncomputable def lexL : List T -> List T -> Bool
 | [],ys => decide (0 < ys.length)
 | x :: xs,ys => match ys with
  | [] => false
  | y :: ys => if x = y then lexL xs ys else ltB x y
end
noncomputable def ltO : Option T -> Option T -> Bool
 | some x,some y => ltB x y
 | _,_ => false
def Cm : Nat -> T -> T -> Prop
 | _,.int _,.int _ => True
 | _,.str _,.str _ => True
 | d + 1,.tup xs,.tup ys => ∀ (j : Nat) (x y : T),xs[j]? = some x -> ys[j]? = some y -> Cm d x y
 | _,_,_ => False
theorem lex_go (xs ys : List T) : ∀ (k i : Nat),min xs.length ys.length - i = k -> i <= min xs.length ys.length ->
  lexB (fun j => decide (xs[j]? = ys[j]?)) (fun j => ltO xs[j]? ys[j]?) (decide (xs.length < ys.length)) ((List.range (min xs.length ys.length)).drop i) = lexL (xs.drop i) (ys.drop i):=by
 intro k
 induction k with
 | zero =>
  intro i hk hi
  rw [List.drop_of_length_le (by simp; omega)]
  unfold lexB
  by_cases h1 : xs.length <= i
  ·
   rw [List.drop_of_length_le h1]
   unfold lexL
   rw [List.length_drop]
   congr 1
   exact propext ⟨fun _ => by omega,fun _ => by omega⟩
  ·
   have h2 : ys.length <= i:=by omega
   rw [List.drop_of_length_le h2,List.drop_eq_getElem_cons (by omega)]
   unfold lexL
   exact decide_eq_false (by omega)
 | succ k ih =>
  intro i hk hi
  have h1 : i < xs.length:=by omega
  have h2 : i < ys.length:=by omega
  rw [range_drop (by omega),List.drop_eq_getElem_cons h1,List.drop_eq_getElem_cons h2]
  unfold lexB lexL
  dsimp only
  rw [List.getElem?_eq_getElem h1,List.getElem?_eq_getElem h2]
  by_cases he : xs[i] = ys[i]
  ·
   rw [if_pos (decide_eq_true (congrArg some he)),if_pos he]
   exact ih (i + 1) (by omega) (by omega)
  ·
   rw [if_neg (by simp [he]),if_neg he]
   rfl
section
variable {X : Cx} {pins : List (Addr × Obj)} {σ : L2.St} {H : Hp} {s : Shared}
theorem lt_tree (I : Inv X pins σ H s) : ∀ (d : Nat) (A : Around) (x y : T) (vx vy : V) (u v : Value),pl d x = true -> pl d y = true -> Cm d x y -> Rep X.K H x vx -> Rep X.K H y vy -> RelV vx u -> RelV vy v -> A.units + d < cLine -> LtAt A s u v (ltB x y):=by
 intro d
 induction d with
 | zero =>
  intro A x y vx vy u v px py c rx ry ru rv _
  cases x <;> cases y <;> first | exact c.elim | skip
  ·
   cases rx.int; cases ry.int; obtain ⟨t,rfl⟩:=ru; obtain ⟨t',rfl⟩:=rv; exact LtAt.ints _ _ _ _
  ·
   cases rx.str; cases ry.str; obtain ⟨t,rfl⟩:=ru; obtain ⟨t',rfl⟩:=rv; exact LtAt.strs _ _ _ _
 | succ d ih =>
  intro A x y vx vy u v px py c rx ry ru rv hu
  cases x <;> cases y <;> first | exact c.elim | skip
  ·
   cases rx.int; cases ry.int; obtain ⟨t,rfl⟩:=ru; obtain ⟨t',rfl⟩:=rv; exact LtAt.ints _ _ _ _
  ·
   cases rx.str; cases ry.str; obtain ⟨t,rfl⟩:=ru; obtain ⟨t',rfl⟩:=rv; exact LtAt.strs _ _ _ _
  ·
   rename_i ts us
   obtain ⟨a,xs,rfl,sq,r⟩:=rx.tup
   cases ru
   obtain ⟨its,rv1,ht,_⟩:=I.tuple sq
   obtain ⟨b,ys,rfl,sq',r'⟩:=ry.tup
   cases rv
   obtain ⟨its',rv2,ht',_⟩:=I.tuple sq'
   have l1:=r.length
   have l2:=r'.length
   have l3:=rv1.length
   have l4:=rv2.length
   simp only [pl,List.all_eq_true] at px py
   have at' : ∀ j (h1 : j < its.toArray.size) (h2 : j < its'.toArray.size),∃ x y p q,ts[j]? = some x /\ us[j]? = some y /\ x ∈ ts /\ y ∈ us /\ Rep X.K H x p /\ Rep X.K H y q /\ RelV p its.toArray[j] /\ RelV q its'.toArray[j]:=fun j h1 h2 => by
    rw [List.size_toArray] at h1 h2
    have g1 : j < ts.length:=by omega
    have g2 : j < us.length:=by omega
    obtain ⟨p1,e1,q1⟩:=r.get (List.getElem?_eq_getElem g1)
    obtain ⟨p2,e2,q2⟩:=r'.get (List.getElem?_eq_getElem g2)
    obtain ⟨z1,f1,w1⟩:=rv1.get e1
    obtain ⟨z2,f2,w2⟩:=rv2.get e2
    rw [vget _ f1,vget _ f2]
    exact ⟨_,_,p1,p2,List.getElem?_eq_getElem g1,List.getElem?_eq_getElem g2,List.getElem_mem g1,List.getElem_mem g2,q1,q2,w1,w2⟩
   have key:=LtAt.tups (A:=A) (s:=s) (e:=fun j => decide (ts[j]? = us[j]?)) (l:=fun j => ltO ts[j]? us[j]?) (show s.heap.IsTuple a its.toArray from ht) (show s.heap.IsTuple b its'.toArray from ht') (by omega) (fun j h1 h2 => by
    obtain ⟨x,y,p,q,e1,e2,m1,m2,r1,r2,r3,r4⟩:=at' j h1 h2
    have:=eq_tree I d A.in1 x y p q _ _ (px _ m1) (py _ m2) r1 r2 r3 r4 (by rw [units_in1]; omega)
    rw [e1,e2,show decide (some x = some y) = decide (x = y) by by_cases h : x = y <;> simp [h]]
    exact this) fun j h1 h2 _ => by
    obtain ⟨x,y,p,q,e1,e2,m1,m2,r1,r2,r3,r4⟩:=at' j h1 h2
    rw [e1,e2]
    exact ih A.in1 x y p q _ _ (px _ m1) (py _ m2) (c j x y e1 e2) r1 r2 r3 r4 (by rw [units_in1]; omega)
   rw [List.size_toArray,List.size_toArray,<- l3,<- l1,<- l4,<- l2] at key
   have e:=lex_go ts us _ 0 rfl (Nat.zero_le _)
   rw [List.drop_zero,List.drop_zero,List.drop_zero] at e
   rw [e] at key
   exact key
end
section
variable {P : Program} {w : World} {A : Around} {R : Result -> Shared -> Prop} {I S : Addr} {fp wr : List Addr} {n : Nat} {V : Nat -> Value -> Prop} {St : Nat -> Heap -> Prop} {bt : Nat -> Nat -> Bool} {s0 : Shared}
def Kpt (h h' : Heap) : Prop:=∀ b o,h.get? b = some o -> h'.get? b = some o
def CmH (P : Program) (w : World) (A : Around) (s0 : Shared) (V : Nat -> Value -> Prop) (bt : Nat -> Nat -> Bool) : Prop :=
 ∀ i j vi vj h tk (E Q : Value -> Shared -> Prop),Kpt s0.heap h -> V i vi -> V j vj -> Q (.bool (bt i j)) { s0 with heap:=h,toks:=tk } -> wpAny (model P w) A (richCompare .Lt vi vj) Q E { s0 with heap:=h,toks:=tk }
theorem min_loopH (W : Walks P w A.in1 I fp wr n V St) (hc : CmH P w A.in1 s0 V bt) (hS : S ∉ fp) (hw : ∀ b ∈ S :: wr,s0.heap.get? b = none) (hR : ∀ v h' tk',V (argBest bt (n - 1)) v -> Kpt s0.heap h' -> R (.ok (.ret v)) { s0 with heap:=h',toks:=tk' }) :
  ∀ (m j : Nat) (h : Heap) (tk : Nat) (vb : Value) (c : Nat),n - (j + 1) = m -> j + 1 <= n -> St (j + 1) h -> V (argBest bt j) vb -> Kpt s0.heap h -> h.get? S = some ⟨.type "list",none,.seq #[vb,vb] c,#[]⟩ ->
   codeAny (model P w) A (.builtin "min.loop" ⟨[.ref I,.none,.ref S],[]⟩) R { s0 with heap:=h,toks:=tk }:=by
 have hSw : S ∉ wr:=fun q => hS (W.sub _ q)
 have nm : (toString "min" ++ toString ".loop" : String) = "min.loop":=by decide
 have stay : ∀ {h h' : Heap},Kpt s0.heap h -> (∀ b o,b ∉ wr -> h.get? b = some o -> h'.get? b = some o) -> Kpt s0.heap h':=fun k1 k2 b o e => k2 b o (fun q => by rw [hw b (.tail _ q)] at e; cases e) (k1 b o e)
 have upd : ∀ {h : Heap} {f : Obj -> Obj},Kpt s0.heap h -> Kpt s0.heap (h.update S f):=fun k1 b o e => (Heap.get?_update_other _ _ (fun q : S = b => by rw [<- q,hw S (.head _)] at e; cases e)).trans (k1 b o e)
 intro m
 induction m with
 | zero =>
  intro j h tk vb c hm hj st hV hk hl
  refine codeAny_builtin F.entry_min_loop ?_
  rw [Around.under_plainId F.plain_min_loop _]
  refine wpAny_bind (m:=seqItems? (.ref S)) (wpAny_seqItems hl rfl ?_)
  refine wpAny_bind (m:=tryCatch (pyNext (.ref I)) _) (wpAny_tryCatch (W.done _ _ _ ((show j + 1 = n by omega) ▸ st) fun h' tk' hk' => ?_))
  refine wpAny_bind (m:=updateSeq S fun _ => #[]) (wpAny_updateSeq (hk' S _ hSw hl) rfl (wpAny_bind (wpAny_letGo (wpAny_pure ?_))))
  exact hR vb _ tk' (by rw [show n - 1 = j by omega]; exact hV) (upd (stay hk hk'))
 | succ m ih =>
  intro j h tk vb c hm hj st hV hk hl
  refine codeAny_builtin F.entry_min_loop ?_
  rw [Around.under_plainId F.plain_min_loop _]
  refine wpAny_bind (m:=seqItems? (.ref S)) (wpAny_seqItems hl rfl ?_)
  refine wpAny_bind (m:=tryCatch (pyNext (.ref I)) _) (wpAny_tryCatch (W.item (j + 1) _ _ _ (by omega) st fun v h' tk' hv st' hk' => ?_))
  refine wpAny_bind (m:=tryCatch (holding [v,v] (richCompare .Lt v vb >>= _)) _) (wpAny_tryCatch (wpAny_holding (wpAny_bind (hc (j + 1) (argBest bt j) v vb h' tk' _ _ (stay hk hk') hv hV ?_))))
  refine wpAny_bind (wpAny_holding (wpAny_truthy_bool (wpAny_bind (wpAny_letGo (wpAny_pure ?_)))))
  have go : ∀ (h2 : Heap) (v2 : Value) (c2 : Nat),St (j + 1 + 1) h2 -> V (argBest bt (j + 1)) v2 -> Kpt s0.heap h2 -> h2.get? S = some ⟨.type "list",none,.seq #[v2,v2] c2,#[]⟩ -> codeAny (model P w) A (.builtin "min.loop" ⟨[.ref I,.none,.ref S],[]⟩) R { s0 with heap:=h2,toks:=tk' } :=
   fun h2 v2 c2 a1 a2 a3 a4 => ih (j + 1) h2 tk' v2 c2 (by omega) (by omega) a1 a2 a3 a4
  cases hb : bt (j + 1) (argBest bt j) with
  | true =>
   rw [if_pos rfl]
   refine wpAny_bind (wpAny_updateSeq (hk' S _ hSw hl) rfl (wpAny_bind (wpAny_letGo ?_)))
   rw [nm]
   refine wpAny_pure ⟨plainId_quiet F.plain_min_loop _,go _ v _ (W.frame _ _ _ st' fun b hbf o e => ?_) (by unfold argBest; rw [if_pos hb]; exact hv) (upd (stay hk hk')) (Heap.get?_update_self _ (hk' S _ hSw hl) rfl)⟩
   exact (Heap.get?_update_other _ _ fun q : S = b => hS (by rw [q]; exact hbf)).trans e
  | false =>
   rw [if_neg Bool.false_ne_true]
   refine wpAny_bind (wpAny_letGo ?_)
   rw [nm]
   exact wpAny_pure ⟨plainId_quiet F.plain_min_loop _,go h' vb c st' (by unfold argBest; rw [if_neg (by rw [hb]; decide)]; exact hV) (stay hk hk') (hk' S _ hSw hl)⟩
theorem min_listH {E : Value -> Shared -> Prop} {s : Shared} {l : Addr} {its : Array Value} {Q : Value -> Shared -> Prop} (hh : A.handled = none) (hl : s.heap.IsList l its) (hne : 0 < its.size) (hc : CmH P w A.in1 s (fun i v => its[i]? = some v) bt)
  (h : ∀ v h' tk,its[argBest bt (its.size - 1)]? = some v -> Kpt s.heap h' -> Q v { s with heap:=h',toks:=tk }) : wpAny (model P w) A (call (.builtin "min") [.ref l]) Q E s:=by
 have nm : (toString "min" ++ toString ".loop" : String) = "min.loop":=by decide
 have ll : l < s.heap.objs.size:=by obtain ⟨_,e,_⟩:=hl; exact Heap.lt_size e
 refine call_function_tree F.kind_min F.plain_min F.entry_min (F.args_min1 _) ?_
 refine wpAny_bind (m:=Builtin.Builtins.bindParams "min" ["key","default"] 0 ⟨[],[]⟩) (wpAny_of_eq (show Builtin.Builtins.bindParams "min" ["key","default"] 0 ⟨[],[]⟩ = pure [none,none] from rfl) ?_)
 refine wpAny_bind (wpAny_pure ?_)
 refine wpAny_bind (wpAny_pyIter_list hl ?_)
 refine wpAny_bind (wpAny_newObj_type ?_)
 rw [nm]
 have W:=Walks.list (prog:=P) (w:=w) (A:=A.in1) hh s.heap.objs.size l (Nat.ne_of_lt ll) its
 have sz1 : (s.heap.push { cls:=.type "list_iterator",data:=.fields #[.ref l,.int 0 0] }).objs.size = s.heap.objs.size + 1:=Heap.size_push ..
 refine wpAny_pure ⟨plainId_quiet F.plain_min_loop _,?_⟩
 have ho1 : (s.heap.push { cls:=.type "list_iterator",data:=.fields #[.ref l,.int 0 0] }).get? s.heap.objs.size = some { cls:=.type "list_iterator",data:=.fields #[.ref l,.int 0 0] }:=Heap.get?_push_size _ rfl
 have hS : s.heap.objs.size + 1 ∉ [s.heap.objs.size,l]:=fun q => by
  rcases List.mem_cons.mp q with q | q
  ·
   exact absurd q (Nat.succ_ne_self _)
  ·
   exact absurd (List.mem_singleton.mp q) (Nat.ne_of_gt (Nat.lt_succ_of_lt ll))
 have hSw : s.heap.objs.size + 1 ∉ [s.heap.objs.size]:=by simp
 have none1 : ∀ b ∈ (s.heap.objs.size + 1) :: [s.heap.objs.size],s.heap.get? b = none:=fun b hb => by
  rcases List.mem_cons.mp hb with rfl | hb
  ·
   exact Heap.get?_none_of_le (by omega)
  ·
   rw [List.mem_singleton.mp hb]; exact Heap.get?_none_of_le (Nat.le_refl _)
 have kp : Kpt s.heap ((s.heap.push { cls:=.type "list_iterator",data:=.fields #[.ref l,.int 0 0] }).push { cls:=.type "list",data:=.seq #[] }):=fun b o e => Heap.get?_push_of_some _ (Heap.get?_push_of_some _ e)
 have hl2 : ((s.heap.push { cls:=.type "list_iterator",data:=.fields #[.ref l,.int 0 0] }).push { cls:=.type "list",data:=.seq #[] }).get? (s.heap.objs.size + 1) = some ⟨.type "list",none,.seq #[] 0,#[]⟩:=by
  rw [<- sz1]; exact Heap.get?_push_size _ rfl
 dsimp only
 rw [sz1]
 refine codeAny_builtin F.entry_min_loop ?_
 rw [Around.under_plainId F.plain_min_loop _]
 refine wpAny_bind (m:=seqItems? (.ref (s.heap.objs.size + 1))) (wpAny_seqItems hl2 rfl ?_)
 refine wpAny_bind (m:=tryCatch (pyNext (.ref s.heap.objs.size)) _) (wpAny_tryCatch (W.item 0 _ _ _ hne ⟨⟨_,Heap.get?_push_of_some _ ho1,rfl,rfl⟩,(hl.push _).push _⟩ fun v h' tk' hv st' hk' => ?_))
 have hl3:=hk' _ _ hSw hl2
 refine wpAny_bind (m:=updateSeq (s.heap.objs.size + 1) fun _ => #[v,v]) (wpAny_updateSeq hl3 rfl ?_)
 rw [nm]
 have st : ∀ b o,b ∉ [s.heap.objs.size] -> s.heap.get? b = some o -> h'.get? b = some o:=fun b o hb e => hk' b o hb (kp b o e)
 refine wpAny_pure ⟨plainId_quiet F.plain_min_loop _,min_loopH (s0:=s) (S:=s.heap.objs.size + 1) W hc hS none1 (fun v' h2 tk2 a1 a2 => h v' h2 tk2 a1 a2) _ 0 _ tk' v _ rfl hne (W.frame _ _ _ st' fun b hbf o e => ?_) hv (fun b o e => ?_) (Heap.get?_update_self _ hl3 rfl)⟩
 ·
  exact (Heap.get?_update_other _ _ fun q : s.heap.objs.size + 1 = b => hS (by rw [q]; exact hbf)).trans e
 ·
  refine (Heap.get?_update_other _ _ fun q : s.heap.objs.size + 1 = b => ?_).trans (st b o (fun q => ?_) e)
  ·
   rw [<- q,none1 _ (.head _)] at e; cases e
  ·
   rw [none1 b (.tail _ q)] at e; cases e
end
theorem u16 {A : Around} (h : A.units + 30 < cLine) : A.units + 16 < cLine:=by omega
noncomputable def minT : T -> List T -> T
 | b,[] => b
 | b,y :: r => minT (if ltB y b = true then y else b) r
theorem minT_snoc : ∀ (l : List T) (b y : T),minT b (l ++ [y]) = if ltB y (minT b l) = true then y else minT b l
 | [],_,_ => rfl
 | x :: l,b,y => by show minT _ (l ++ [y]) = _; rw [minT_snoc l]; rfl
theorem arg_min (t : T) (ts : List T) : ∀ k,k <= ts.length -> (t :: ts)[argBest (fun i j => ltO (t :: ts)[i]? (t :: ts)[j]?) k]? = some (minT t (ts.take k)):=by
 intro k
 induction k with
 | zero => intro _; rfl
 | succ k ih =>
  intro hk
  have e:=ih (by omega)
  have hg : (t :: ts)[k + 1]? = some ts[k]:=by rw [List.getElem?_cons_succ]; exact List.getElem?_eq_getElem (by omega)
  rw [List.take_succ_eq_append_getElem (by omega),minT_snoc]
  unfold argBest
  by_cases h : ltB ts[k] (minT t (ts.take k)) = true
  ·
   rw [if_pos (by rw [hg,e]; exact h),hg,if_pos h]
  ·
   rw [if_neg (by rw [hg,e]; exact h),e,if_neg h]
def mnH (o : Option O3) (H : Hp3) (Q : VK3) : Prop:=match o with
 | some (.lst (t :: ts)) => (∃ d,d <= 8 /\ (∀ x ∈ t :: ts,pl d x = true) /\ ∀ x ∈ t :: ts,∀ y ∈ t :: ts,Cm d x y) /\ Q (minT t ts) H
 | _ => False
def r3Min1 : List T -> Hp3 -> VK3 -> Prop:=fun ts H Q => match ts with
 | [.ref a] => mnH (H a) H Q
 | _ => False
theorem q_min1 (a : Addr) (H : Hp3) (Q : VK3) : r3Min1 [.ref a] H Q = mnH (H a) H Q:=rfl
theorem q_mnH (t : T) (ts : List T) (H : Hp3) (Q : VK3) : mnH (some (.lst (t :: ts))) H Q = ((∃ d,d <= 8 /\ (∀ x ∈ t :: ts,pl d x = true) /\ ∀ x ∈ t :: ts,∀ y ∈ t :: ts,Cm d x y) /\ Q (minT t ts) H):=rfl
section
variable {X : Cx}
theorem c3_min1 (hc : X.calm = true) (hu : X.A.units + 16 < cLine) : CallR3 X (.builtin "min") r3Min1:=by
 intro pins s σ H xs us Q I rv h
 obtain ⟨ts,H3,Q3,r,sh,h,k⟩:=h
 cases ts with
 | nil => exact h.elim
 | cons t ts =>
  cases ts with
  | cons _ _ => cases t <;> exact h.elim
  | nil =>
   cases t with
   | ref a =>
    rw [q_min1] at h
    obtain ⟨v,rfl,rv'⟩:=r.one'
    obtain ⟨u,rfl,ru⟩:=vals1 rv
    rw [rv'.ref] at ru
    cases ru
    cases e : H3 a with
    | none => rw [e] at h; exact h.elim
    | some o =>
     rw [e] at h
     cases o with
     | lst ls =>
      cases ls with
      | nil => exact h.elim
      | cons t ts =>
       rw [q_mnH] at h
       obtain ⟨⟨d,hd,hpl,hcm⟩,h⟩:=h
       obtain ⟨ys,sq,rs⟩:=sh.sqL (.inl e)
       obtain ⟨its,rvs,hl,_⟩:=I.list sq
       have l1:=rs.length
       have l2:=rvs.length
       have at' : ∀ (i : Nat) (v : Value),its.toArray[i]? = some v -> ∃ x p,(t :: ts)[i]? = some x /\ ys[i]? = some p /\ x ∈ t :: ts /\ Rep X.K H x p /\ RelV p v:=fun i v hv => by
        have hi : i < (t :: ts).length:=by
         have:=(Array.getElem?_eq_some_iff.mp hv).1
         rw [List.size_toArray] at this
         omega
        obtain ⟨p,e1,q1⟩:=rs.get (List.getElem?_eq_getElem hi)
        obtain ⟨z,f1,w1⟩:=rvs.get e1
        have : z = v:=by simpa [f1] using hv
        subst this
        exact ⟨_,p,List.getElem?_eq_getElem hi,e1,List.getElem_mem hi,q1,w1⟩
       have hsz : its.toArray.size = ts.length + 1:=by rw [List.size_toArray,<- l2,<- l1]; rfl
       refine min_listH (bt:=fun i j => ltO (t :: ts)[i]? (t :: ts)[j]?) (I.ok.hd hc) hl.isList (by rw [hsz]; omega) (fun i j vi vj h2 tk E2 Q2 hk vi' vj' hq => ?_) fun v h' tk hv hk => ?_
       ·
        obtain ⟨x,p,e1,f1,m1,r1,w1⟩:=at' i vi vi'
        obtain ⟨y,q,e2,f2,m2,r2,w2⟩:=at' j vj vj'
        refine lt_tree (I.kept (t':=tk) hk) d X.A.in1 x y p q vi vj (hpl x m1) (hpl y m2) (hcm x m1 y m2) r1 r2 w1 w2 (by rw [units_in1]; omega) _ _ _ _ ?_
        dsimp only at hq
        rw [e1,e2] at hq
        exact hq
       ·
        obtain ⟨x,p,e1,f1,m1,r1,w1⟩:=at' _ v hv
        have em:=arg_min t ts ts.length (Nat.le_refl _)
        rw [hsz,show ts.length + 1 - 1 = ts.length from rfl,em,List.take_length] at e1
        cases e1
        exact ⟨p,H,I.kept hk,w1,k _ _ _ _ .refl sh r1 h⟩
     | _ => exact h.elim
   | _ => cases h
end
end L3
set_option maxHeartbeats 4000000
namespace M
open PySem PySem.Spec PyProof.Rows L2 L3
noncomputable def allF : Nat -> Nat -> Nat -> List (List Str)
 | 0,_,_ => [[]]
 | m + 1,a,b => (if 0 < a then (allF m (a - 1) b).map (("one" : Str) :: ·) else []) ++ if 0 < b then (allF m a (b - 1)).map (("other" : Str) :: ·) else []
theorem allF_len : ∀ (m a b : Nat),(allF m a b).length <= 2 ^ m
 | 0,_,_ => Nat.le_refl _
 | m + 1,a,b => by
  have h1:=allF_len m (a - 1) b
  have h2:=allF_len m a (b - 1)
  unfold allF
  rw [List.length_append,Nat.pow_succ]
  have e1 : (if 0 < a then (allF m (a - 1) b).map (("one" : Str) :: ·) else []).length <= 2 ^ m:=by split <;> simp <;> omega
  have e2 : (if 0 < b then (allF m a (b - 1)).map (("other" : Str) :: ·) else []).length <= 2 ^ m:=by split <;> simp <;> omega
  omega
theorem c1_one (tn : List Str) : c1 ("one" :: tn) = c1 tn + 1:=by unfold c1; rw [List.countP_cons,if_pos (by decide +kernel)]; omega
theorem c1_other (tn : List Str) : c1 ("other" :: tn) = c1 tn:=by unfold c1; rw [List.countP_cons,if_neg (by decide +kernel)]; omega
theorem c2_one (tn : List Str) : c2 ("one" :: tn) = c2 tn:=by unfold c2; rw [List.countP_cons,if_neg (by decide +kernel)]; omega
theorem c2_other (tn : List Str) : c2 ("other" :: tn) = c2 tn + 1:=by unfold c2; rw [List.countP_cons,if_pos (by decide +kernel)]; omega
structure Trn (tn : List Str) (a b : Nat) : Prop where
 w : ∀ t ∈ tn,t = "one" \/ t = "other"
 l : tn.length = a + b
 o : c1 tn = a
 t : c2 tn = b
theorem Trn.one {tn : List Str} {a b : Nat} (h : Trn tn a b) : Trn ("one" :: tn) (a + 1) b:=⟨fun t ht => by
 rcases List.mem_cons.mp ht with e | e
 ·
  exact .inl e
 ·
  exact h.w t e,by rw [List.length_cons,h.l]; omega,by rw [c1_one,h.o]; omega,by rw [c2_one,h.t]⟩
theorem Trn.other {tn : List Str} {a b : Nat} (h : Trn tn a b) : Trn ("other" :: tn) a (b + 1):=⟨fun t ht => by
 rcases List.mem_cons.mp ht with e | e
 ·
  exact .inr e
 ·
  exact h.w t e,by rw [List.length_cons,h.l]; omega,by rw [c1_other,h.o],by rw [c2_other,h.t]; omega⟩
theorem Trn.nil : Trn [] 0 0:=⟨(fun _ h => nomatch h),rfl,rfl,rfl⟩
theorem allF_trn : ∀ (m a b : Nat),a + b = m -> ∀ tn ∈ allF m a b,Trn tn a b
 | 0,a,b,h,tn,ht => by
  have e : tn = []:=by simpa [allF] using ht
  obtain ⟨rfl,rfl⟩ : a = 0 /\ b = 0:=⟨by omega,by omega⟩
  subst e
  exact .nil
 | m + 1,a,b,h,tn,ht => by
  unfold allF at ht
  rcases List.mem_append.mp ht with q | q
  ·
   split at q
   ·
    obtain ⟨r,hr,rfl⟩:=List.mem_map.mp q
    have:=(allF_trn m (a - 1) b (by omega) r hr).one
    rw [show a - 1 + 1 = a by omega] at this
    exact this
   ·
    cases q
  ·
   split at q
   ·
    obtain ⟨r,hr,rfl⟩:=List.mem_map.mp q
    have:=(allF_trn m a (b - 1) (by omega) r hr).other
    rw [show b - 1 + 1 = b by omega] at this
    exact this
   ·
    cases q
theorem Trn.nn (tn : List Str) : 0 <= c1 tn /\ 0 <= c2 tn:=⟨by unfold c1; omega,by unfold c2; omega⟩
theorem allF_all : ∀ (tn : List Str) (a b : Nat),Trn tn a b -> tn ∈ allF (a + b) a b
 | [],a,b,h => by
  have:=h.l
  rw [List.length_nil] at this
  obtain ⟨rfl,rfl⟩ : a = 0 /\ b = 0:=⟨by omega,by omega⟩
  exact .head _
 | t :: tn,a,b,h => by
  have hl:=h.l
  rw [List.length_cons] at hl
  have nn:=Trn.nn tn
  have h1:=h.o
  have h2:=h.t
  have hw : ∀ t ∈ tn,t = "one" \/ t = "other":=fun x hx => h.w x (List.mem_cons_of_mem _ hx)
  obtain ⟨m,hm⟩ : ∃ m,a + b = m + 1:=⟨a + b - 1,by omega⟩
  rw [hm]
  unfold allF
  rcases h.w t List.mem_cons_self with rfl | rfl
  ·
   rw [c1_one] at h1
   rw [c2_one] at h2
   have ih:=allF_all tn (a - 1) b ⟨hw,by omega,by omega,h2⟩
   refine List.mem_append_left _ ?_
   rw [if_pos (by omega)]
   exact List.mem_map.mpr ⟨tn,by rw [show m = a - 1 + b by omega]; exact ih,rfl⟩
  ·
   rw [c1_other] at h1
   rw [c2_other] at h2
   have ih:=allF_all tn a (b - 1) ⟨hw,by omega,h1,by omega⟩
   refine List.mem_append_right _ ?_
   rw [if_pos (by omega)]
   exact List.mem_map.mpr ⟨tn,by rw [show m = a + (b - 1) by omega]; exact ih,rfl⟩
theorem Trn.tn {tn : List Str} {a b : Nat} (h : Trn tn a b) (h1 : 1 <= a + b) (h2 : a + b <= 10) : Tn tn:=⟨h.w,by rw [h.l]; exact h2,by rw [h.l]; exact h1⟩
def spB : Nat -> Sp3
 | 0 => fun _ _ _ => False
 | m + 1 => fun ts H Q => ∃ a b : Nat,ts = [.int a,.int b] /\ a + b <= m /\ m <= 10 /\ ∀ p,H p = none -> Q (.ref p) (up3 H p (.lst ((allF (a + b) a b).map sT)))
theorem spB_mk {m a b : Nat} {H : Hp3} {Q : VK3} (h1 : a + b <= m) (h2 : m <= 10) (h : ∀ p,H p = none -> Q (.ref p) (up3 H p (.lst ((allF (a + b) a b).map sT)))) : spB (m + 1) [.int a,.int b] H Q:=⟨a,b,rfl,h1,h2,h⟩
theorem sub_at {H0 H : Hp3} {p : Addr} {o : O3} (s : Sub3 H0 H) (g : H p = some o) : Sub3 (up3 H0 p o) H:=fun a u e => by
 by_cases h : a = p
 ·
  subst h; rw [up3_same] at e; cases e; exact g
 ·
  rw [up3_ne h] at e; exact s a u e
noncomputable def lagV (tk : List (Str × Int × List Str)) (zs : List Int) (beat : Int) (D : List (List Str)) (tn : List Str) : Int:=(D.map (S2W tk zs beat tn)).foldl mxI 0
theorem S2W_nn (tk : List (Str × Int × List Str)) (zs : List Int) (beat : Int) (tn ns : List Str) : 0 <= S2W tk zs beat tn ns:=by rw [S2W_run]; exact run_nn _ _ _
theorem max_is {tk : List (Str × Int × List Str)} {zs : List Int} {beat : Int} {tn : List Str} {D : List (List Str)} {M : Int} (hM : IsMax (D.map (S2W tk zs beat tn)) M) : M = lagV tk zs beat D tn:=by
 obtain ⟨h1,h2,h3⟩:=fold_mx (D.map (S2W tk zs beat tn)) 0
 have a1:=h2 M hM.1
 unfold lagV
 rcases h3 with h3 | h3
 ·
  obtain ⟨ns,hn,e⟩:=List.mem_map.mp hM.1
  have:=S2W_nn tk zs beat tn ns
  omega
 ·
  have:=hM.2 _ h3
  omega
noncomputable def lag3 (beat : Int) (tn : List Str) (xs : List (Int × Int)) : Int:=xs.foldl (fun m p => run ((List.replicate 3 tn).flatten.map fun t => pk p.1 p.2 t - beat) 0 m) 0
theorem lag3_is {tk : List (Str × Int × List Str)} {zs : List Int} {beat : Int} {tn : List Str} {D : List (List Str)} (h : Tn tn) (hf : Fits tk zs beat D (c1 tn) (c2 tn)) : lag3 beat tn (D.map fun ns => (ld tk ns,ld2 (tk.zip zs) ns)) = lagV tk zs beat D tn:=by
 have e3 : ∀ ns ∈ D,run ((List.replicate 3 tn).flatten.map fun t => pk (ld tk ns) (ld2 (tk.zip zs) ns) t - beat) 0 0 = S2W tk zs beat tn ns:=fun ns hn => by
  rw [<- flat_map,S2W_run]
  exact (top2 h hf hn (m:=3) (by decide)).uniq (top2 h hf hn (by decide))
 have key : ∀ (B : List (List Str)) (g : Int),0 <= g -> (∀ ns ∈ B,ns ∈ D) -> (B.map fun ns => (ld tk ns,ld2 (tk.zip zs) ns)).foldl (fun m p => run ((List.replicate 3 tn).flatten.map fun t => pk p.1 p.2 t - beat) 0 m) g = (B.map (S2W tk zs beat tn)).foldl mxI g:=fun B => by
  induction B with
  | nil => intro g _ _; rfl
  | cons ns B ih =>
   intro g hg hB
   rw [List.map_cons,List.foldl_cons,List.map_cons,List.foldl_cons,run_mx _ _ hg,e3 ns (hB ns List.mem_cons_self)]
   exact ih _ (Int.le_trans hg (mxI_l _ _)) fun n hn => hB n (List.mem_cons_of_mem _ hn)
 exact key D 0 (Int.le_refl _) fun _ h => h
noncomputable def lgT (f : List Str -> Int) (tn : List Str) : T:=.tup [.int (f tn),sT tn]
theorem lt_lg (f : List Str -> Int) (x y : List Str) : (ltB (lgT f x) (lgT f y) = true -> f x <= f y) /\ (ltB (lgT f x) (lgT f y) = false -> f y <= f x):=by
 unfold lgT
 simp only [ltB,lexL]
 by_cases h : f x = f y
 ·
  exact ⟨fun _ => by omega,fun _ => by omega⟩
 ·
  have hn : ¬ (T.int (f x) = T.int (f y)):=fun e => h (by injection e)
  rw [if_neg hn]
  exact ⟨fun e => by have:=of_decide_eq_true e; omega,fun e => by have:=of_decide_eq_false e; omega⟩
theorem min_lg (f : List Str -> Int) : ∀ (l : List (List Str)) (b : List Str),∃ tn,minT (lgT f b) (l.map (lgT f)) = lgT f tn /\ tn ∈ b :: l /\ ∀ x ∈ b :: l,f tn <= f x
 | [],b => ⟨b,rfl,.head _,fun x hx => by rw [List.mem_singleton.mp hx]; exact Int.le_refl _⟩
 | y :: l,b => by
  have hlt:=lt_lg f y b
  rw [List.map_cons]
  unfold minT
  cases h : ltB (lgT f y) (lgT f b) with
  | true =>
   rw [if_pos rfl]
   obtain ⟨tn,e,hm,hx⟩:=min_lg f l y
   refine ⟨tn,e,.tail _ hm,fun x hx' => ?_⟩
   rcases List.mem_cons.mp hx' with rfl | q
   ·
    exact Int.le_trans (hx y (.head _)) (hlt.1 h)
   ·
    exact hx x q
  | false =>
   rw [if_neg Bool.false_ne_true]
   obtain ⟨tn,e,hm,hx⟩:=min_lg f l b
   refine ⟨tn,e,?_,fun x hx' => ?_⟩
   ·
    rcases List.mem_cons.mp hm with q | q
    ·
     exact q ▸ .head _
    ·
     exact .tail _ (.tail _ q)
   ·
    rcases List.mem_cons.mp hx' with q | q
    ·
     rw [q]; exact hx b (.head _)
    ·
     rcases List.mem_cons.mp q with q | q
     ·
      rw [q]; exact Int.le_trans (hx b (.head _)) (hlt.2 h)
     ·
      exact hx x (.tail _ q)
theorem pl_lg (f : List Str -> Int) (tn : List Str) : pl 2 (lgT f tn) = true:=by
 simp [pl,lgT,sT]
theorem cm_lg (f : List Str -> Int) (x y : List Str) : Cm 2 (lgT f x) (lgT f y):=by
 intro j u v h1 h2
 match j,h1,h2 with
 | 0,h1,h2 => cases h1; cases h2; exact trivial
 | 1,h1,h2 =>
  cases h1; cases h2
  intro i p q g1 g2
  rw [List.getElem?_map] at g1 g2
  obtain ⟨_,_,rfl⟩:=Option.map_eq_some_iff.mp g1
  obtain ⟨_,_,rfl⟩:=Option.map_eq_some_iff.mp g2
  exact trivial
 | j + 2,h1,h2 => cases h1
noncomputable def leastT (f : List Str -> Int) : List (List Str) -> T
 | [] => .non
 | b :: l => minT (lgT f b) (l.map (lgT f))
theorem mn_lg (f : List Str -> Int) (L : List (List Str)) (hL : L ≠ []) (H : Hp3) (Q : VK3) (h : Q (leastT f L) H) : mnH (some (.lst (L.map (lgT f)))) H Q:=by
 cases L with
 | nil => exact absurd rfl hL
 | cons b l =>
  rw [List.map_cons,q_mnH]
  have hm : ∀ x ∈ lgT f b :: l.map (lgT f),∃ tn,x = lgT f tn:=fun x hx => by
   rcases List.mem_cons.mp hx with q | q
   ·
    exact ⟨b,q⟩
   ·
    obtain ⟨tn,_,e⟩:=List.mem_map.mp q
    exact ⟨tn,e.symm⟩
  refine ⟨⟨2,by decide,fun x hx => ?_,fun x hx y hy => ?_⟩,h⟩
  ·
   obtain ⟨tn,rfl⟩:=hm x hx; exact pl_lg f tn
  ·
   obtain ⟨tn,rfl⟩:=hm x hx; obtain ⟨tn',rfl⟩:=hm y hy; exact cm_lg f tn tn'
theorem least_is (f : List Str -> Int) (L : List (List Str)) (hL : L ≠ []) : ∃ tn,leastT f L = lgT f tn /\ tn ∈ L /\ ∀ x ∈ L,f tn <= f x:=by
 cases L with
 | nil => exact absurd rfl hL
 | cons b l => exact min_lg f l b
theorem allF_ne {a b : Nat} : allF (a + b) a b ≠ []:=fun e => by
 have h : Trn (List.replicate a ("one" : Str) ++ List.replicate b ("other" : Str)) a b:=⟨fun t ht => by
  rcases List.mem_append.mp ht with q | q
  ·
   exact .inl (List.eq_of_mem_replicate q)
  ·
   exact .inr (List.eq_of_mem_replicate q),by simp,by unfold c1; rw [List.countP_append,rep_cp,rep_cp,if_pos (by decide +kernel),if_neg (by decide +kernel)]; omega,by unfold c2; rw [List.countP_append,rep_cp,rep_cp,if_neg (by decide +kernel),if_pos (by decide +kernel)]; omega⟩
 have:=allF_all _ a b h
 rw [e] at this
 cases this
end M
namespace M
open PySem PySem.Spec PyProof.Rows L2 L3
theorem q_dgPI (kvs : List (List Key × T)) (x y : Int) {H : Hp3} {Q : VK3} : dgPH (some (.dcp kvs)) [.int x,.int y] H Q = oq (lookP [Sum.inl x,Sum.inl y] kvs) fun t => Q t H:=rfl
theorem q_dpPI (kvs : List (List Key × T)) (a : Addr) (x y : Int) (v : T) {H : Hp3} (Q : Hp3 -> Prop) : dpPH (some (.dcp kvs)) a [.int x,.int y] v H Q = (kvs.length < sizeLine /\ Q (up3 H a (.dcp (putP [Sum.inl x,Sum.inl y] v kvs)))):=rfl
theorem rng_at {n i : Nat} {A B : List Nat} (e : List.range n = A ++ i :: B) : i = A.length /\ i < n:=by
 have h : (List.range n)[A.length]? = (A ++ i :: B)[A.length]?:=by rw [e]
 rw [List.getElem?_append_right (Nat.le_refl _),Nat.sub_self,List.getElem?_cons_zero] at h
 have hl : A.length < n:=by
  have:=congrArg List.length e
  simp only [List.length_range,List.length_append,List.length_cons] at this
  omega
 rw [List.getElem?_range hl] at h
 injection h with h
 exact ⟨h.symm,h ▸ hl⟩
theorem Trn.snoc1 {tn : List Str} {a b : Nat} (h : Trn tn a b) : Trn (tn ++ [("one" : Str)]) (a + 1) b:=⟨fun t ht => by
 rcases List.mem_append.mp ht with e | e
 ·
  exact h.w t e
 ·
  exact .inl (List.mem_singleton.mp e),by rw [List.length_append,h.l,List.length_singleton]; omega,by have:=h.o; unfold c1 at this ⊢; rw [List.countP_append,List.countP_singleton,if_pos (by decide +kernel)]; omega,by have:=h.t; unfold c2 at this ⊢; rw [List.countP_append,List.countP_singleton,if_neg (by decide +kernel)]; omega⟩
theorem Trn.snoc2 {tn : List Str} {a b : Nat} (h : Trn tn a b) : Trn (tn ++ [("other" : Str)]) a (b + 1):=⟨fun t ht => by
 rcases List.mem_append.mp ht with e | e
 ·
  exact h.w t e
 ·
  exact .inr (List.mem_singleton.mp e),by rw [List.length_append,h.l,List.length_singleton]; omega,by have:=h.o; unfold c1 at this ⊢; rw [List.countP_append,List.countP_singleton,if_neg (by decide +kernel)]; omega,by have:=h.t; unfold c2 at this ⊢; rw [List.countP_append,List.countP_singleton,if_pos (by decide +kernel)]; omega⟩
structure Tl (H : Hp3) (q : Addr) (a b m : Nat) (L : List (List Str)) : Prop where
 g : H q = some (.lst (L.map sT))
 t : ∀ tn ∈ L,Trn tn a b
 l : L.length <= m
theorem Tl.sub {H H' : Hp3} {q : Addr} {a b m : Nat} {L : List (List Str)} (x : Tl H q a b m L) (s : Sub3 H H') : Tl H' q a b m L:=⟨s _ _ x.g,x.t,x.l⟩
structure Al (H3 H : Hp3) (pf : Addr) (kvs : List (List Key × T)) (n : Nat) (P : Nat -> Nat -> Prop) : Prop where
 s : Sub3 H3 H
 g : H pf = some (.dcp kvs)
 l : kvs.length <= n
 i : ∀ a b,P a b -> ∃ q L,lookP [Sum.inl (a : Int),Sum.inl (b : Int)] kvs = some (.ref q) /\ q ≠ pf /\ H3 q = none /\ Tl H q a b (3 ^ (a + b)) L
theorem Al.mono {H3 H : Hp3} {pf : Addr} {kvs : List (List Key × T)} {n n' : Nat} {P P' : Nat -> Nat -> Prop} (x : Al H3 H pf kvs n P) (h : n <= n') (hP : ∀ c d,P' c d -> P c d) : Al H3 H pf kvs n' P':=⟨x.s,x.g,Nat.le_trans x.l h,fun a b h => x.i a b (hP a b h)⟩
theorem pow3 {n : Nat} (h : 0 < n) : 3 ^ (n - 1) + 3 ^ (n - 1) <= 3 ^ n:=by
 obtain ⟨m,rfl⟩ : ∃ m,n = m + 1:=⟨n - 1,by omega⟩
 rw [Nat.add_sub_cancel,Nat.pow_succ]
 omega
theorem Al.put {H3 H H' : Hp3} {pf q : Addr} {kvs : List (List Key × T)} {n a b : Nat} {P P' : Nat -> Nat -> Prop} {L : List (List Str)} (x : Al H3 H pf kvs n P) (hp : H3 pf = none) (s : Sub3 H H') (q0 : H3 q = none) (y : Tl H' q a b (3 ^ (a + b)) L) (hP : ∀ c d,P' c d -> (c = a /\ d = b) \/ P c d) :
  Al H3 (up3 H' pf (.dcp (putP [Sum.inl (a : Int),Sum.inl (b : Int)] (.ref q) kvs))) pf (putP [Sum.inl (a : Int),Sum.inl (b : Int)] (.ref q) kvs) (n + 1) P':=by
 have hq : q ≠ pf:=fun e => by
  have h1:=y.g
  rw [e,s _ _ x.g] at h1
  cases h1
 have up : ∀ {c d m : Nat} {r : Addr} {M : List (List Str)},r ≠ pf -> Tl H' r c d m M -> Tl (up3 H' pf (.dcp (putP [Sum.inl (a : Int),Sum.inl (b : Int)] (.ref q) kvs))) r c d m M:=fun hr z => ⟨by rw [up3_ne hr]; exact z.g,z.t,z.l⟩
 refine ⟨sub_upn hp (x.s.trans s),up3_same,Nat.le_trans (putP_len _ _ _) (Nat.succ_le_succ x.l),fun c d h => ?_⟩
 rw [lookP_put]
 by_cases e : c = a /\ d = b
 ·
  obtain ⟨rfl,rfl⟩:=e
  rw [if_pos rfl]
  exact ⟨q,L,rfl,hq,q0,up hq y⟩
 ·
  rw [if_neg (fun h => e (by
   injection h with h1 h2
   injection h2 with h2 _
   injection h1 with h1
   injection h2 with h2
   omega))]
  rcases hP c d h with h | h
  ·
   exact absurd h e
  obtain ⟨r,M,e1,e2,e3,z⟩:=x.i c d h
  exact ⟨r,M,e1,e2,e3,up e2 (z.sub s)⟩
def spAl : Sp3:=fun ts H Q => ∃ a b : Nat,ts = [.int a,.int b] /\ a <= 3 /\ b <= 3 /\ ∀ p (L : List (List Str)),H p = none -> (∀ tn ∈ L,Trn tn a b) -> L.length <= 1000 -> Q (.ref p) (up3 H p (.lst (L.map sT)))
structure Pr (H : Hp3) (as : List Addr) (xs : List (Int × Int)) : Prop where
 l : as.length = xs.length
 g : ∀ (i : Nat) (a : Addr) (p : Int × Int),as[i]? = some a -> xs[i]? = some p -> H a = some (.lst [.int p.1,.int p.2])
theorem Pr.zip {H : Hp3} {as : List Addr} {xs : List (Int × Int)} (h : Pr H as xs) : as.map T.ref = (as.zip xs).map fun q => T.ref q.1:=by
 rw [<- zip_fst as xs h.l,List.map_map]
 rw [zip_fst as xs h.l]
 rfl
theorem Pr.mem {H : Hp3} {as : List Addr} {xs : List (Int × Int)} (h : Pr H as xs) {q : Addr × Int × Int} (hq : q ∈ as.zip xs) : H q.1 = some (.lst [.int q.2.1,.int q.2.2]):=by
 obtain ⟨i,hi⟩:=List.getElem?_of_mem hq
 rw [List.getElem?_zip_eq_some] at hi
 exact h.g i q.1 q.2 hi.1 hi.2
theorem Pr.snd {H : Hp3} {as : List Addr} {xs : List (Int × Int)} (h : Pr H as xs) : (as.zip xs).map (·.2) = xs:=by
 rw [List.map_snd_zip (by rw [h.l]; exact Nat.le_refl _)]
theorem Pr.to {H H' : Hp3} {as : List Addr} {xs : List (Int × Int)} (h : Pr H as xs) (s : ∀ a ∈ as,∀ o,H a = some o -> H' a = some o) : Pr H' as xs:=⟨h.l,fun i a p h1 h2 => s a (List.mem_of_getElem? h1) _ (h.g i a p h1 h2)⟩
def spLag : Sp3:=fun ts H Q => ∃ (pa : Addr) (as : List Addr) (xs : List (Int × Int)) (beat : Int) (tn : List Str),ts = [.ref pa,.int beat,.tup (tn.map T.str)] /\ H pa = some (.lst (as.map T.ref)) /\ Pr H as xs /\ Tn tn /\ Q (.int (lag3 beat tn xs)) H
end M
namespace M
open PySem PySem.Spec PyProof.Rows L2 L3
local macro_rules | `(tactic| walk_at "cp") => `(tactic| try dsimp only [cap3,List.replicate,List.map_cons,List.map_nil,List.cons_append,List.nil_append,List.getElem?_cons_zero,List.getElem?_cons_succ,Option.getD_some])
local macro_rules | `(tactic| walk_at "nx") => `(tactic| (obtain ⟨e⟩:=‹Shut (_ = _)›; subst e; try dsimp only))
local macro_rules | `(tactic| walk_at "rd") => do
 let ls <- ((nm0 ++ " q_dgP q_dgPH q_dpP q_dpPH tDGetP3 sDPutP3 tDNew3 tDNewP3 tDisp1 q_d1q tDIn3 q_diq q_diH q_iSeqV q_iEnumT q_enTq q_any q_anH q_max2 q_min2 q_rep q_rpH q_ins q_insH q_max1 q_mxH q_cnt q_repT q_tyT q_slT' q_tSlT q_revT q_rvT q_min1 q_dgPI q_dpPI").splitOn " ").toArray.mapM fun n => let i:=Lean.mkIdent n.toName; `(Lean.Parser.Tactic.simpLemma| $i:ident)
 `(tactic| ((try dsimp only [$[$ls:simpLemma],*]); try simp only [*,$[$ls:simpLemma],*]))
section
variable {P : Program} {w : World} {K : PySem.W.Frag} {mg : Str -> Option Value} {base : Heap}
abbrev N_lag : List Str:=["_law_pairs_here","_law_beat_here","_law_turns","_law_most","_law_loads_here","_law_lag_here","_law_turn_here"]
theorem sc_lag : FnScope N_lag ["_law_pairs_here","_law_beat_here","_law_turns"] (defScope (top 35)):=sc_mk
theorem ok_lag {f : Addr} {fd : FuncData} (g : G3 K mg "_law_lag" (top 35) ["_law_pairs_here","_law_beat_here","_law_turns"] f fd) (B : Bl mg) : Cal P w K mg base 1 "_law_lag" (top 35) ["_law_pairs_here","_law_beat_here","_law_turns"] spLag:=by
 refine ⟨f,fd,g,?_⟩
 refine fn3 g.fn sc_lag (fun ts H Q h => ?_) (fun cdv A outer s H E ts H3 Q hr h => ?_)
 ·
  obtain ⟨pa,as,xs,beat,tn,rfl,_⟩:=h; rfl
 ·
  have hu30:=Room.u30 hr
  have hu31:=Room.u31 hr
  have hu1:=Room.u1 hr
  obtain ⟨pa,as,xs,beat,tn,rfl,ha,hpr,htn,k⟩:=h
  refine ⟨_,(ss3_cons (s3_set (i:=3) sc_lag.nd c3_int)
    (ss3_cons (s3_for PassesOwn.never rfl (i3_list (v3 0)) (g3_name (i:=4) sc_lag.nd) (ss3_cons (s3_set (i:=5) sc_lag.nd c3_int)
     (ss3_one (s3_for PassesOwn.never rfl (i3_tup (e3_op o3_repT (v3 2) c3_int)) (g3_name (i:=6) sc_lag.nd) (ss3_cons (s3_set (i:=5) sc_lag.nd (e3_callB (c3_max2 rfl) rfl B.max_ bt_max (a3_cons c3_int (a3_cons (e3_op o3_sub (e3_op o3_add (v3 5) (e3_ix ix3 (v3 4) (e3_callTy c3_int' rfl B.int_ bt_int (a3_cons (e3_cmp (o3_eq hu30) (v3 6) c3_str) a3_nil)))) (v3 1)) a3_nil))))
      (ss3_one (s3_set (i:=3) sc_lag.nd (e3_callB (c3_max2 rfl) rfl B.max_ bt_max (a3_cons (v3 3) (a3_cons (v3 5) a3_nil))))))))))
    (ss3_one (s3_ret (v3 3))))),?_⟩
  rw [show start3 N_lag [T.ref pa,T.int beat,T.tup (tn.map T.str)] = [some (T.ref pa),some (T.int beat),some (T.tup (tn.map T.str)),none,none,none,none] from rfl]
  have hsz : sizeLine = 16777216:=rfl
  have k':=Box.mk k
  clear k
  refine seq_cut fun R0 hR0 => ?_
  walk_at "rd"
  walk_at "nx"
  refine seq_cut fun R1 hR1 => ?_
  rw [hpr.zip] at ha
  have ha':=Box.mk ha
  walk_at "rd"
  clear ha
  refine iter_pre (fun q : Addr × Int × Int => T.ref q.1) (as.zip xs) (fun A σ H => ∃ (v4 v5 v6 : Option T),σ = [some (.ref pa),some (.int beat),some (.tup (tn.map T.str)),some (.int ((A.map (·.2)).foldl (fun m p => run ((List.replicate 3 tn).flatten.map fun t => pk p.1 p.2 t - beat) 0 m) 0)),v4,v5,v6] /\ H = H3) ⟨_,_,_,rfl,rfl⟩ ?_ ?_
  ·
   rintro σ H ⟨v4,v5,v6,rfl,rfl⟩
   refine ⟨.inl ha'.out,?_⟩
   walk_at "nx"
   rw [hpr.snd]
   clear ha'
   walk_at "rd"
   exact Fin3.of Sub3.refl k'.out
  ·
   rintro A ⟨al,x,y⟩ B σ H N e ⟨v4,v5,v6,rfl,rfl⟩ hN
   refine ⟨.inl ha'.out,?_⟩
   have gl : H al = some (.lst [.int x,.int y]):=hpr.mem (q:=(al,x,y)) (by rw [e]; simp)
   have hN':=Box.mk hN
   clear hN hR1 e k' ha'
   have eF : ((A ++ [(al,x,y)]).map (·.2)).foldl (fun m p => run ((List.replicate 3 tn).flatten.map fun t => pk p.1 p.2 t - beat) 0 m) 0 = run ((List.replicate 3 tn).flatten.map fun t => pk x y t - beat) 0 ((A.map (·.2)).foldl (fun m p => run ((List.replicate 3 tn).flatten.map fun t => pk p.1 p.2 t - beat) 0 m) 0):=by rw [List.map_append,List.foldl_append]; rfl
   rw [eF] at hN'
   generalize (A.map (·.2)).foldl (fun m p => run ((List.replicate 3 tn).flatten.map fun t => pk p.1 p.2 t - beat) 0 m) 0 = g0 at hN'
   clear eF
   refine seq_cut fun R2 hR2 => ?_
   walk_at "rd"
   walk_at "nx"
   have hn:=htn.n
   have hll:=htn.l
   walk_at "rd"
   refine ⟨⟨?_,by decide,by decide,?_⟩,?_⟩
   ·
    intro h
    have:=congrArg List.length h
    rw [List.length_map,List.length_nil] at this
    omega
   ·
    rw [show Int.toNat 3 = 3 from rfl]; omega
   rw [show Int.toNat 3 = 3 from rfl,flat_map]
   refine iter_go (fun r σ H' => ∃ (rs : List Str) (g lag : Int) (v6 : Option T),r = rs.map T.str /\ σ = [some (.ref pa),some (.int beat),some (.tup (tn.map T.str)),some (.int g),some (.ref al),some (.int lag),v6] /\ run (rs.map fun t => pk x y t - beat) lag g = run ((List.replicate 3 tn).flatten.map fun t => pk x y t - beat) 0 g0 /\ H' = H) ⟨_,_,_,_,rfl,rfl,rfl,rfl⟩ ?_ ?_
   ·
    rintro σ H' ⟨rs,g,lag,v6,hr',rfl,hrun,rfl⟩
    have : rs = []:=List.map_eq_nil_iff.mp hr'.symm
    subst this
    refine ⟨trivial,?_⟩
    have hg : g = run ((List.replicate 3 tn).flatten.map fun t => pk x y t - beat) 0 g0:=hrun
    subst hg
    exact hN'.out _ _ ⟨_,_,_,rfl,rfl⟩
   ·
    rintro x' r σ H' N2 ⟨rs,g,lag,v6,hr',rfl,hrun,rfl⟩ hN2
    refine ⟨trivial,?_⟩
    cases rs with
    | nil => cases hr'
    | cons z rs =>
     injection hr' with e1 e2
     subst e1 e2
     have hM:=Box.mk hN2
     clear hN2 hN'
     have e3 : ∀ z : Int,lag + z - beat = lag + (z - beat):=fun z => by omega
     have e4 : atI [T.int x,T.int y] (if decide (z = "other") = true then 1 else 0) = some (T.int (pk x y z)):=by
      unfold pk
      by_cases h : z = "other"
      ·
       rw [decide_eq_true h,if_pos rfl,if_pos h]; rfl
      ·
       rw [decide_eq_false h,if_neg Bool.false_ne_true,if_neg h]; rfl
     walk_at "rd"
     refine hM.out _ _ ⟨rs,_,_,_,rfl,rfl,?_,rfl⟩
     rw [<- hrun]
     rfl
abbrev N_all : List Str:=["_law_first","_law_second","_law_found","_law_a","_law_b","_law_some"]
theorem sc_all : FnScope N_all ["_law_first","_law_second"] (defScope (top 36)):=sc_mk
theorem ok_all {f : Addr} {fd : FuncData} (g : G3 K mg "_law_all" (top 36) ["_law_first","_law_second"] f fd) (B : Bl mg) : Cal P w K mg base 1 "_law_all" (top 36) ["_law_first","_law_second"] spAl:=by
 refine ⟨f,fd,g,?_⟩
 refine fn3 g.fn sc_all (fun ts H Q h => ?_) (fun cdv A outer s H E ts H3 Q hr h => ?_)
 ·
  obtain ⟨a,b,rfl,_⟩:=h; rfl
 ·
  have hu30:=Room.u30 hr
  have hu31:=Room.u31 hr
  have hu1:=Room.u1 hr
  obtain ⟨a,b,rfl,a3,b3,k⟩:=h
  refine ⟨_,(ss3_cons (s3_set (i:=2) sc_all.nd e3_dnewP)
    (ss3_cons (s3_for PassesOwn.never rfl (i3_range1 rfl B.range_ (a3_cons (e3_op o3_add (v3 0) c3_int) a3_nil)) (g3_name (i:=3) sc_all.nd) (ss3_one (s3_for PassesOwn.never rfl (i3_range1 rfl B.range_ (a3_cons (e3_op o3_add (v3 1) c3_int) a3_nil)) (g3_name (i:=4) sc_all.nd) (ss3_cons (s3_set (i:=5) sc_all.nd (e3_lst a3_nil))
      (ss3_cons (s3_if (t3_cmp (o3_eq hu30) (e3_op o3_add (v3 3) (v3 4)) c3_int) (ss3_one (s3_set (i:=5) sc_all.nd (e3_lst (a3_cons (e3_tup a3_nil) a3_nil)))) ss3_nil)
      (ss3_cons (s3_if (t3_cmp o3_gt (v3 3) c3_int) (ss3_one (s3_set (i:=5) sc_all.nd (e3_op o3_add (v3 5) (e3_comp rfl (compSc (n0:=(defScope (top 36)).names) (N:=N_all) (N':=["_law_turns"]) (nt:=1) (cap:=[]) rfl rfl (by decide +kernel)) (i3_list (e3_dgetP hu1 (v3 2) (a3_cons (e3_op o3_sub (v3 3) c3_int) (a3_cons (v3 4) a3_nil)))) (fun cl pins s H C0 fp => ⟨(g3_name (i:=0) (show List.Nodup [("_law_turns" : Str)] by decide +kernel)),if3_nil,(e3_op o3_add (v3 0) (e3_tup (a3_cons c3_str a3_nil)))⟩))))) ss3_nil)
      (ss3_cons (s3_if (t3_cmp o3_gt (v3 4) c3_int) (ss3_one (s3_set (i:=5) sc_all.nd (e3_op o3_add (v3 5) (e3_comp rfl (compSc (n0:=(defScope (top 36)).names) (N:=N_all) (N':=["_law_turns"]) (nt:=1) (cap:=[]) rfl rfl (by decide +kernel)) (i3_list (e3_dgetP hu1 (v3 2) (a3_cons (v3 3) (a3_cons (e3_op o3_sub (v3 4) c3_int) a3_nil)))) (fun cl pins s H C0 fp => ⟨(g3_name (i:=0) (show List.Nodup [("_law_turns" : Str)] by decide +kernel)),if3_nil,(e3_op o3_add (v3 0) (e3_tup (a3_cons c3_str a3_nil)))⟩))))) ss3_nil)
      (ss3_one (s3_dputP hu1 (v3 2) (a3_cons (v3 3) (a3_cons (v3 4) a3_nil)) (v3 5))))))))))
    (ss3_one (s3_ret (e3_dgetP hu1 (v3 2) (a3_cons (v3 0) (a3_cons (v3 1) a3_nil))))))),?_⟩
  rw [show start3 N_all [T.int (a : Int),T.int (b : Int)] = [some (T.int (a : Int)),some (T.int (b : Int)),none,none,none,none] from rfl]
  have hsz : sizeLine = 16777216:=rfl
  have k':=Box.mk k
  clear k
  refine seq_cut fun R0 hR0 => ?_
  walk_at "rd"
  intro pf hpf
  have al0 : Al H3 (up3 H3 pf (.dcp [])) pf [] 0 (fun _ _ => False):=⟨Sub3.new hpf,up3_same,Nat.le_refl _,(fun _ _ h => h.elim)⟩
  generalize up3 H3 pf (.dcp []) = H1 at al0
  walk_at "nx"
  refine seq_cut fun R1 hR1 => ?_
  walk_at "rd"
  refine ⟨trivial,by omega,by omega,?_⟩
  rw [show ((a : Int) + 1).toNat = a + 1 from rfl,show rng3 0 (a + 1) = (List.range (a + 1)).map (fun (i : Nat) => T.int (i : Int)) from rng0 _]
  refine iter_pre (fun (i : Nat) => T.int (i : Int)) (List.range (a + 1)) (fun A σ H => ∃ (va vb vs : Option T) (kvs : List (List Key × T)),σ = [some (.int a),some (.int b),some (.ref pf),va,vb,vs] /\ Al H3 H pf kvs (4 * A.length) fun c d => c < A.length /\ d <= b) ⟨_,_,_,[],rfl,al0.s,al0.g,al0.l,(fun c d h => absurd h.1 (Nat.not_lt_zero _))⟩ ?_ ?_
  ·
   rintro σ H ⟨va,vb,vs,kvs,rfl,al⟩
   refine ⟨trivial,?_⟩
   walk_at "nx"
   rw [List.length_range] at al
   obtain ⟨q,L,e1,e2,hq0,tl⟩:=al.i a b ⟨by omega,Nat.le_refl _⟩
   have g:=al.g
   walk_at "rd"
   exact ⟨by decide,Fin3.of (sub_at al.s tl.g) (k'.out q L hq0 tl.t (Nat.le_trans tl.l (Nat.le_trans (Nat.pow_le_pow_right (by decide) (show a + b <= 6 by omega)) (by decide))))⟩
  ·
   rintro A c B σ H N e ⟨va,vb,vs,kvs,rfl,al⟩ hN
   obtain ⟨hc,hc1⟩:=rng_at e
   refine ⟨trivial,?_⟩
   have hN':=Box.mk hN
   have hcB:=Box.mk hc
   clear hN e hR1 k' al0 hc
   walk_at "rd"
   refine ⟨trivial,by omega,by omega,?_⟩
   rw [show ((b : Int) + 1).toNat = b + 1 from rfl,show rng3 0 (b + 1) = (List.range (b + 1)).map (fun (i : Nat) => T.int (i : Int)) from rng0 _]
   refine iter_pre (fun (i : Nat) => T.int (i : Int)) (List.range (b + 1)) (fun A2 σ H => ∃ (vb vs : Option T) (kvs : List (List Key × T)),σ = [some (.int a),some (.int b),some (.ref pf),some (.int c),vb,vs] /\ Al H3 H pf kvs (4 * c + A2.length) fun c' d => c' < c /\ d <= b \/ c' = c /\ d < A2.length) ⟨_,_,kvs,rfl,al.mono (by have:=hcB.out; omega) fun c' d h => ?_⟩ ?_ ?_
   ·
    have:=hcB.out
    rcases h with h | h
    ·
     exact ⟨by omega,h.2⟩
    ·
     exact absurd h.2 (Nat.not_lt_zero _)
   ·
    rintro σ H ⟨vb,vs,kvs,rfl,al⟩
    rw [List.length_range] at al
    have:=hcB.out
    refine ⟨trivial,hN'.out _ _ ⟨_,_,_,kvs,rfl,al.mono (by rw [List.length_append,List.length_singleton]; omega) fun c' d h => ?_⟩⟩
    rw [List.length_append,List.length_singleton] at h
    by_cases q : c' = c
    ·
     exact .inr ⟨q,by omega⟩
    ·
     exact .inl ⟨by omega,h.2⟩
   ·
    clear al hN'
    rintro A2 d B2 σ H N2 e ⟨vb,vs,kvs,rfl,al⟩ hN
    obtain ⟨hd,hd1⟩:=rng_at e
    refine ⟨trivial,?_⟩
    have hN':=Box.mk hN
    have hdB:=Box.mk hd
    clear hN e hd
    refine seq_cut fun R2 hR2 => ?_
    walk_at "rd"
    refine ⟨by omega,fun p0 hp0 => ?_⟩
    have go2 : ∀ (H2 : Hp3) (q : Addr) (L : List (List Str)),Sub3 H H2 -> H3 q = none -> Tl H2 q c d 0 L -> R2 { nx:=N2,rt:=Fin3 Q,bk:=N,ct:=N2 } [some (.int a),some (.int b),some (.ref pf),some (.int c),some (.int d),some (.ref q)] H2:=by
     intro H2 q L hS hq0 tl
     walk_at "nx"
     refine seq_cut fun R3 hR3 => ?_
     have go3 : ∀ (H2 : Hp3) (q : Addr) (L : List (List Str)) (m : Nat),Sub3 H H2 -> H3 q = none -> Tl H2 q c d m L -> m + (if 0 < c then 3 ^ (c + d - 1) else 0) + (if 0 < d then 3 ^ (c + d - 1) else 0) <= 3 ^ (c + d) -> R3 { nx:=N2,rt:=Fin3 Q,bk:=N,ct:=N2 } [some (.int a),some (.int b),some (.ref pf),some (.int c),some (.int d),some (.ref q)] H2:=by
      intro H2 q L m hS hq0 tl hm
      walk_at "nx"
      refine seq_cut fun R4 hR4 => ?_
      have go4 : ∀ (H2 : Hp3) (q : Addr) (L : List (List Str)) (m : Nat),Sub3 H H2 -> H3 q = none -> Tl H2 q c d m L -> m + (if 0 < d then 3 ^ (c + d - 1) else 0) <= 3 ^ (c + d) -> R4 { nx:=N2,rt:=Fin3 Q,bk:=N,ct:=N2 } [some (.int a),some (.int b),some (.ref pf),some (.int c),some (.int d),some (.ref q)] H2:=by
       intro H2 q L m hS hq0 tl hm
       walk_at "nx"
       refine seq_cut fun R5 hR5 => ?_
       have go5 : ∀ (H2 : Hp3) (q : Addr) (L : List (List Str)),Sub3 H H2 -> H3 q = none -> Tl H2 q c d (3 ^ (c + d)) L -> R5 { nx:=N2,rt:=Fin3 Q,bk:=N,ct:=N2 } [some (.int a),some (.int b),some (.ref pf),some (.int c),some (.int d),some (.ref q)] H2:=by
        intro H2 q L hS hq0 tl
        walk_at "nx"
        have g:=hS _ _ al.g
        have al':=Box.mk (al.put (P':=fun c' d' => c' < c /\ d' <= b \/ c' = c /\ d' < A2.length + 1) hpf hS hq0 tl fun c' d' h => by
         have:=hdB.out
         rcases h with h | h
         ·
          exact .inr (.inl h)
         ·
          by_cases z : d' = d
          ·
           exact .inl ⟨h.1,z⟩
          ·
           exact .inr (.inr ⟨h.1,by omega⟩))
        have hl:=al.l
        clear tl
        walk_at "rd"
        exact ⟨by decide,by have:=hdB.out; omega,hN'.out _ _ ⟨_,_,_,rfl,al'.out.mono (by rw [List.length_append,List.length_singleton]; omega) fun c' d' h => by rw [List.length_append,List.length_singleton] at h; exact h⟩⟩
       walk_at "rd"
       by_cases hv : 0 < d
       ·
        rw [if_pos (decide_eq_true (by omega))]
        obtain ⟨q1,L1,e1,e2,e3,t1⟩:=al.i (c) ((d - 1)) (.inr ⟨rfl,by have:=hdB.out; omega⟩)
        have e1' : lookP [Sum.inl (c : Int),Sum.inl ((d : Int) - 1)] kvs = some (.ref q1):=by
         rw [show ((d : Int) - 1) = ((d - 1 : Nat) : Int) by omega]; exact e1
        have gl:=hS _ _ t1.g
        have gf:=hS _ _ al.g
        have gq:=tl.g
        have t1l:=t1.l
        have tll:=tl.l
        have pw : 3 ^ (c + (d - 1)) <= 729:=Nat.le_trans (Nat.pow_le_pow_right (by decide) (show c + (d - 1) <= 6 by omega)) (by decide)
        have mw : L.length <= 729:=Nat.le_trans tll (Nat.le_trans (Nat.le_trans (Nat.le_add_right _ _) hm) (Nat.le_trans (Nat.pow_le_pow_right (by decide) (show c + d <= 6 by omega)) (by decide)))
        have hm':=Box.mk hm
        clear e1 hm
        walk_at "rd"
        refine ⟨by decide,?_⟩
        walk_at "rd"
        walk_at "cp"
        refine cIter_pure sT (fun ns => sT (ns ++ [("other" : Str)])) L1 [] (.inl gl) (by omega) (fun ns hn Q' hq' => ?_) (fun r hr => ?_)
        ·
         have hnl : ns.length <= 10:=by rw [(t1.t ns hn).l]; omega
         clear hm' hR5 go5 gl gf gq e1'
         walk_at "rd"
         refine ⟨by decide,by rw [List.length_map,List.length_singleton]; omega,?_⟩
         have:=hq'
         unfold sT at this
         rw [List.map_append] at this
         exact this
        ·
         have g5 : up3 H2 r (.lst (L1.map fun ns => sT (ns ++ [("other" : Str)]))) q = some (.lst (L.map sT)):=by rw [up3_ne (ne3n gq hr)]; exact gq
         rw [g5,q_catH]
         refine ⟨by rw [List.length_map,List.length_map]; omega,fun r2 hr2 => ?_⟩
         have hS5:=hS.trans ((Sub3.new (o:=.lst (L1.map fun ns => sT (ns ++ [("other" : Str)]))) hr).trans (Sub3.new (o:=.lst (L.map sT ++ L1.map fun ns => sT (ns ++ [("other" : Str)]))) hr2))
         refine go5 _ r2 (L ++ L1.map (· ++ [("other" : Str)]))  hS5 ?_ ⟨?_,fun tn htn => ?_,?_⟩
         ·
          cases z : H3 r2 with
          | none => rfl
          | some o =>
           have:=(hS.trans (Sub3.new (o:=.lst (L1.map fun ns => sT (ns ++ [("other" : Str)]))) hr)) r2 o (al.s r2 o z)
           rw [hr2] at this
           cases this
         ·
          rw [up3_same,List.map_append,List.map_map]; rfl
         ·
          rcases List.mem_append.mp htn with h | h
          ·
           exact tl.t tn h
          ·
           obtain ⟨u,hu,rfl⟩:=List.mem_map.mp h
           have:=(t1.t u hu).snoc2
           rw [show d - 1 + 1 = d by omega] at this
           exact this
         ·
          rw [List.length_append,List.length_map]
          have:=hm'.out
          rw [if_pos hv] at this
          have e6 : 3 ^ (c + (d - 1)) = 3 ^ (c + d - 1):=by rw [show c + (d - 1) = c + d - 1 by omega]
          omega
       ·
        rw [if_neg (by rw [decide_eq_false (by omega)]; exact Bool.false_ne_true)]
        rw [if_neg hv] at hm
        exact go5 H2 q L hS hq0 ⟨tl.g,tl.t,Nat.le_trans tl.l (by omega)⟩
      walk_at "rd"
      by_cases hv : 0 < c
      ·
       rw [if_pos (decide_eq_true (by omega))]
       obtain ⟨q1,L1,e1,e2,e3,t1⟩:=al.i ((c - 1)) (d) (.inl ⟨by omega,by have:=hdB.out; omega⟩)
       have e1' : lookP [Sum.inl ((c : Int) - 1),Sum.inl (d : Int)] kvs = some (.ref q1):=by
        rw [show ((c : Int) - 1) = ((c - 1 : Nat) : Int) by omega]; exact e1
       have gl:=hS _ _ t1.g
       have gf:=hS _ _ al.g
       have gq:=tl.g
       have t1l:=t1.l
       have tll:=tl.l
       have pw : 3 ^ ((c - 1) + d) <= 729:=Nat.le_trans (Nat.pow_le_pow_right (by decide) (show (c - 1) + d <= 6 by omega)) (by decide)
       have mw : L.length <= 729:=Nat.le_trans tll (Nat.le_trans (Nat.le_trans (Nat.le_trans (Nat.le_add_right _ _) (Nat.le_add_right _ _)) hm) (Nat.le_trans (Nat.pow_le_pow_right (by decide) (show c + d <= 6 by omega)) (by decide)))
       have hm':=Box.mk hm
       clear e1 hm
       walk_at "rd"
       refine ⟨by decide,?_⟩
       walk_at "rd"
       walk_at "cp"
       refine cIter_pure sT (fun ns => sT (ns ++ [("one" : Str)])) L1 [] (.inl gl) (by omega) (fun ns hn Q' hq' => ?_) (fun r hr => ?_)
       ·
        have hnl : ns.length <= 10:=by rw [(t1.t ns hn).l]; omega
        clear hm' hR4 go4 gl gf gq e1'
        walk_at "rd"
        refine ⟨by decide,by rw [List.length_map,List.length_singleton]; omega,?_⟩
        have:=hq'
        unfold sT at this
        rw [List.map_append] at this
        exact this
       ·
        have g5 : up3 H2 r (.lst (L1.map fun ns => sT (ns ++ [("one" : Str)]))) q = some (.lst (L.map sT)):=by rw [up3_ne (ne3n gq hr)]; exact gq
        rw [g5,q_catH]
        refine ⟨by rw [List.length_map,List.length_map]; omega,fun r2 hr2 => ?_⟩
        have hS5:=hS.trans ((Sub3.new (o:=.lst (L1.map fun ns => sT (ns ++ [("one" : Str)]))) hr).trans (Sub3.new (o:=.lst (L.map sT ++ L1.map fun ns => sT (ns ++ [("one" : Str)]))) hr2))
        refine go4 _ r2 (L ++ L1.map (· ++ [("one" : Str)])) (m + 3 ^ (c + d - 1)) hS5 ?_ ⟨?_,fun tn htn => ?_,?_⟩ (by have:=hm'.out; rw [if_pos hv] at this; omega)
        ·
         cases z : H3 r2 with
         | none => rfl
         | some o =>
          have:=(hS.trans (Sub3.new (o:=.lst (L1.map fun ns => sT (ns ++ [("one" : Str)]))) hr)) r2 o (al.s r2 o z)
          rw [hr2] at this
          cases this
        ·
         rw [up3_same,List.map_append,List.map_map]; rfl
        ·
         rcases List.mem_append.mp htn with h | h
         ·
          exact tl.t tn h
         ·
          obtain ⟨u,hu,rfl⟩:=List.mem_map.mp h
          have:=(t1.t u hu).snoc1
          rw [show c - 1 + 1 = c by omega] at this
          exact this
        ·
         rw [List.length_append,List.length_map]
         have:=hm'.out
         rw [if_pos hv] at this
         have e6 : 3 ^ (c - 1 + d) = 3 ^ (c + d - 1):=by rw [show c - 1 + d = c + d - 1 by omega]
         omega
      ·
       rw [if_neg (by rw [decide_eq_false (by omega)]; exact Bool.false_ne_true)]
       rw [if_neg hv] at hm
       exact go4 H2 q L m hS hq0 tl (by omega)
     walk_at "rd"
     by_cases h0 : c + d = 0
     ·
      rw [if_pos (decide_eq_true (by omega))]
      refine ⟨by decide,by decide,fun r hr => go3 _ r [[]] 1 (hS.trans (Sub3.new hr)) ?_ ⟨up3_same,fun tn htn => ?_,by decide⟩ ?_⟩
      ·
       cases z : H3 r with
       | none => rfl
       | some o =>
        have:=hS r o (al.s r o z)
        rw [hr] at this
        cases this
      ·
       rw [List.mem_singleton.mp htn,show c = 0 by omega,show d = 0 by omega]; exact .nil
      ·
       rw [if_neg (by omega),if_neg (by omega),h0]; decide
     ·
      rw [if_neg (by rw [decide_eq_false (by omega)]; exact Bool.false_ne_true)]
      refine go3 H2 q L 0 hS hq0 tl ?_
      have:=pow3 (show 0 < c + d by omega)
      have p0 : 0 < 3 ^ (c + d - 1):=Nat.pow_pos (by decide)
      split <;> split <;> omega
    refine go2 _ p0 [] (Sub3.new hp0) ?_ ⟨up3_same,(fun _ h => nomatch h),Nat.le_refl _⟩
    cases z : H3 p0 with
    | none => rfl
    | some o =>
     have:=al.s p0 o z
     rw [hp0] at this
     cases this
end
end M
namespace M
open PySem PySem.Spec PyProof.Rows L2 L3
local macro_rules | `(tactic| walk_at "cp") => `(tactic| try dsimp only [cap3,List.replicate,List.map_cons,List.map_nil,List.cons_append,List.nil_append,List.getElem?_cons_zero,List.getElem?_cons_succ,Option.getD_some])
local macro_rules | `(tactic| walk_at "nx") => `(tactic| (obtain ⟨e⟩:=‹Shut (_ = _)›; subst e; try dsimp only))
local macro_rules | `(tactic| walk_at "rd") => do
 let ls <- ((nm0 ++ " q_dgP q_dgPH q_dpP q_dpPH tDGetP3 sDPutP3 tDNew3 tDNewP3 tDisp1 q_d1q tDIn3 q_diq q_diH q_iSeqV q_iEnumT q_enTq q_any q_anH q_max2 q_min2 q_rep q_rpH q_ins q_insH q_max1 q_mxH q_cnt q_repT q_tyT q_slT' q_tSlT q_revT q_rvT").splitOn " ").toArray.mapM fun n => let i:=Lean.mkIdent n.toName; `(Lean.Parser.Tactic.simpLemma| $i:ident)
 `(tactic| ((try dsimp only [$[$ls:simpLemma],*]); try simp only [*,$[$ls:simpLemma],*]))
section
variable {P : Program} {w : World} {K : PySem.W.Frag} {mg : Str -> Option Value} {base : Heap}
abbrev N_drawn : List Str:=["_law_cells","_law_first","_law_second","_law_found","_law_k"]
theorem sc_drawn : FnScope N_drawn ["_law_cells","_law_first","_law_second"] (defScope (top 37)):=sc_mk
theorem ok_drawn {f : Addr} {fd : FuncData} (g : G3 K mg "_law_drawn" (top 37) ["_law_cells","_law_first","_law_second"] f fd) (B : Bl mg) (F_next : Cal P w K mg base 2 "_law_next" (top 21) ["_law_cells"] spNx) : Cal P w K mg base 3 "_law_drawn" (top 37) ["_law_cells","_law_first","_law_second"] spTn:=by
 refine ⟨f,fd,g,?_⟩
 refine fn3 g.fn sc_drawn (fun ts H Q h => ?_) (fun cdv A outer s H E ts H3 Q hr h => ?_)
 ·
  obtain ⟨c,a,b,rfl,_⟩:=h; rfl
 ·
  have hu30:=Room.u30 hr
  have hu31:=Room.u31 hr
  have hu1:=Room.u1 hr
  obtain ⟨c,a,b,rfl,hC,a1,a5,b1,b5,k⟩:=h
  refine ⟨_,(ss3_cons (s3_set (i:=3) sc_drawn.nd (e3_op o3_rep (e3_lst (a3_cons c3_str a3_nil)) (v3 1)))
    (ss3_cons (s3_for PassesOwn.never rfl (i3_range1 rfl B.range_ (a3_cons (v3 2) a3_nil)) (g3_name (i:=4) sc_drawn.nd) (ss3_one (s3_expr (e3_bm PySem.F.plainAttrs_list PySem.F.slot_list_insert PySem.F.type_list_insert m3_insert (v3 3) (a3_cons (e3_op o3_mod (e3_cl F_next hr rfl (a3_cons (v3 0) a3_nil)) (e3_op o3_add (e3_callB c3_len rfl B.len_ bt_len (a3_cons (v3 3) a3_nil)) c3_int)) (a3_cons c3_str a3_nil))))))
    (ss3_one (s3_ret (e3_callTy c3_tuple rfl B.tuple_ bt_tuple (a3_cons (v3 3) a3_nil)))))),?_⟩
  rw [show start3 N_drawn [T.ref c,T.int a,T.int b] = [some (T.ref c),some (T.int a),some (T.int b),none,none] from rfl]
  have hsz : sizeLine = 16777216:=rfl
  have k':=Box.mk k
  clear k
  have w0 : Wt c H3 H3 []:=⟨hC,Kep.refl,(fun _ h => nomatch h)⟩
  refine seq_cut fun R0 hR0 => ?_
  walk_at "rd"
  refine ⟨by omega,fun p1 h1 => ⟨⟨by omega,by omega,by omega⟩,fun pf hpf => ?_⟩⟩
  rw [flat_one] at *
  have x1:=w0.new (o:=.lst [T.str "one"]) h1
  have hpf0:=x1.fresh hpf
  have x2:=x1.new (o:=.lst (List.replicate a.toNat (T.str "one"))) hpf
  generalize up3 (up3 H3 p1 (.lst [T.str "one"])) pf (.lst (List.replicate a.toNat (T.str "one"))) = H1 at x2
  have w1 : Wt c H3 H1 [(pf,.lst ((List.replicate a.toNat ("one" : Str)).map T.str))]:=by
   rw [List.map_replicate]
   exact ⟨x2.cl,x2.kp,fun q hq => by rw [List.mem_singleton.mp hq]; exact x2.at' _ List.mem_cons_self⟩
  clear x1 x2 h1 hpf w0 hC
  walk_at "nx"
  refine seq_cut fun R1 hR1 => ?_
  walk_at "rd"
  refine ⟨trivial,by omega,by omega,?_⟩
  have rl : (rng3 0 b.toNat).length = b.toNat:=by unfold rng3; rw [List.length_map,List.length_range]
  generalize rng3 0 b.toNat = ts0 at rl
  have n1 : (("other" : Str) == ("one" : Str)) = false:=by decide +kernel
  have n2 : (("one" : Str) == ("other" : Str)) = false:=by decide +kernel
  refine iter_go (fun r σ H => ∃ (tn : List Str) (v4 : Option T),σ = [some (.ref c),some (.int a),some (.int b),some (.ref pf),v4] /\ Wt c H3 H [(pf,.lst (tn.map T.str))] /\ (∀ t ∈ tn,t = "one" \/ t = "other") /\ c1 tn = a /\ c2 tn + (r.length : Int) = b /\ (tn.length : Int) + r.length = a + b)
   ⟨List.replicate a.toNat "one",_,rfl,w1,fun t ht => .inl (List.eq_of_mem_replicate ht),?_,?_,?_⟩ ?_ ?_
  ·
   unfold c1; rw [rep_cp,if_pos (by decide +kernel)]; omega
  ·
   unfold c2; rw [rep_cp,n2,if_neg Bool.false_ne_true]; omega
  ·
   rw [List.length_replicate]; omega
  ·
   rintro σ H ⟨tn,v4,rfl,w,hw,e1,e2,e3⟩
   refine ⟨trivial,?_⟩
   walk_at "nx"
   have g:=w.hd
   simp only [List.length_nil] at e2 e3
   have htn : Tn tn:=⟨hw,by omega,by omega⟩
   have e2':=Box.mk (show c2 tn = b by omega)
   have e1':=Box.mk e1
   clear e1 e2 e3 hw
   walk_at "rd"
   exact fin_drw w.cl w.kp fun H'' hD => k'.out tn H'' htn e1'.out e2'.out hD
  ·
   rintro x r σ H N ⟨tn,v4,rfl,w,hw,e1,e2,e3⟩ hN
   refine ⟨trivial,?_⟩
   rw [List.length_cons] at e2 e3
   have hN':=Box.mk hN
   have hw':=Box.mk hw
   have e1':=Box.mk e1
   have g:=w.hd
   clear hN hR1 w1 hw e1
   walk_at "rd"
   refine ⟨⟨trivial,trivial⟩,c,rfl,w.cl,fun n H5 hD5 => ?_⟩
   have w2:=w.drw hD5
   have g2:=w2.hd
   clear g w hD5
   walk_at "rd"
   have q0:=Int.emod_nonneg n (show ((tn.length : Int) + 1) ≠ 0 by omega)
   have q1:=Int.emod_lt_of_pos n (show (0 : Int) < (tn.length : Int) + 1 by omega)
   refine ⟨by omega,⟨q0,by omega,by omega⟩,?_⟩
   generalize n % ((tn.length : Int) + 1) = i at q0 q1
   have em : (tn.map T.str).take i.toNat ++ T.str "other" :: (tn.map T.str).drop i.toNat = (tn.take i.toNat ++ ("other" : Str) :: tn.drop i.toNat).map T.str:=by
    rw [List.map_append,List.map_cons,List.map_take,List.map_drop]
   rw [em]
   refine hN'.out _ _ ⟨tn.take i.toNat ++ ("other" : Str) :: tn.drop i.toNat,_,rfl,w2.set hpf0 (fun _ h => nomatch h) _,fun t ht => ?_,?_,?_,?_⟩
   ·
    rcases mem_ins ht with h | h
    ·
     exact hw'.out t h
    ·
     exact .inr h
   ·
    have:=e1'.out
    unfold c1 at this ⊢
    rw [cp_ins,n1,if_neg Bool.false_ne_true]; omega
   ·
    unfold c2 at e2 ⊢
    rw [cp_ins,if_pos (by decide +kernel)]; omega
   ·
    rw [len_ins]; omega
abbrev N_stand_lag : List Str:=["beat","loads","greatest","lag","load"]
theorem sc_stand_lag : FnScope N_stand_lag ["beat","loads"] (defScope (top 13)):=sc_mk
theorem ok_stand_lag {f : Addr} {fd : FuncData} (g : G3 K mg "stand_lag" (top 13) ["beat","loads"] f fd) (B : Bl mg) : Cal P w K mg base 1 "stand_lag" (top 13) ["beat","loads"] spSl:=by
 refine ⟨f,fd,g,?_⟩
 refine fn3 g.fn sc_stand_lag (fun ts H Q h => ?_) (fun cdv A outer s H E ts H3 Q hr h => ?_)
 ·
  obtain ⟨beat,a,ls,rfl,_⟩:=h; rfl
 ·
  have hu30:=Room.u30 hr
  have hu31:=Room.u31 hr
  have hu1:=Room.u1 hr
  obtain ⟨beat,a,ls,rfl,ha,hl,k⟩:=h
  refine ⟨_,(ss3_cons (s3_set (i:=2) sc_stand_lag.nd c3_int)
    (ss3_cons (s3_set (i:=3) sc_stand_lag.nd c3_int)
    (ss3_cons (s3_for PassesOwn.never rfl (i3_list (e3_op o3_add (v3 1) (v3 1))) (g3_name (i:=4) sc_stand_lag.nd) (ss3_cons (s3_set (i:=3) sc_stand_lag.nd (e3_callB (c3_max2 rfl) rfl B.max_ bt_max (a3_cons c3_int (a3_cons (e3_op o3_sub (e3_op o3_add (v3 3) (v3 4)) (v3 0)) a3_nil))))
     (ss3_one (s3_set (i:=2) sc_stand_lag.nd (e3_callB (c3_max2 rfl) rfl B.max_ bt_max (a3_cons (v3 2) (a3_cons (v3 3) a3_nil)))))))
    (ss3_one (s3_ret (v3 2)))))),?_⟩
  rw [show start3 N_stand_lag [T.int beat,T.ref a] = [some (T.int beat),some (T.ref a),none,none,none] from rfl]
  have hsz : sizeLine = 16777216:=rfl
  have k':=Box.mk k
  clear k
  refine seq_cut fun R0 hR0 => ?_
  walk_at "rd"
  walk_at "nx"
  refine seq_cut fun R0 hR0 => ?_
  walk_at "rd"
  walk_at "nx"
  refine seq_cut fun R0 hR0 => ?_
  walk_at "rd"
  refine ⟨by first | rw [List.length_map]; omega | omega,fun p hp => ?_⟩
  rw [<- List.map_append]
  refine iter_go (fun r σ H => ∃ (rs : List Int) (g lag : Int) (v4 : Option T),r = rs.map T.int /\ σ = [some (.int beat),some (.ref a),some (.int g),some (.int lag),v4] /\ run (rs.map (· - beat)) lag g = run ((ls ++ ls).map (· - beat)) 0 0 /\ H = up3 H3 p (.lst ((ls ++ ls).map T.int))) ⟨ls ++ ls,0,0,_,rfl,rfl,rfl,rfl⟩ ?_ ?_
  ·
   rintro σ H ⟨rs,g,lag,v4,hr',rfl,hrun,rfl⟩
   have : rs = []:=List.map_eq_nil_iff.mp hr'.symm
   subst this
   refine ⟨by first | trivial | exact .inl up3_same,?_⟩
   walk_at "nx"
   walk_at "rd"
   have hg : g = run ((ls ++ ls).map (· - beat)) 0 0:=hrun
   rw [hg]
   exact Fin3.of (Sub3.new hp) k'.out
  ·
   rintro x r σ H N ⟨rs,g,lag,v4,hr',rfl,hrun,rfl⟩ hN
   refine ⟨by first | trivial | exact .inl up3_same,?_⟩
   cases rs with
   | nil => cases hr'
   | cons y rs =>
    injection hr' with e1 e2
    subst e1 e2
    have hN':=Box.mk hN
    clear hN
    have e3 : lag + y - beat = lag + (y - beat):=by omega
    walk_at "rd"
    refine hN'.out _ _ ⟨rs,_,_,_,rfl,rfl,?_,rfl⟩
    rw [<- hrun]
    rfl
abbrev N_loads_at : List Str:=["loads","turns","stand"]
theorem sc_loads_at : FnScope N_loads_at N_loads_at (defScope (top 14)):=sc_mk
theorem ok_loads_at {f : Addr} {fd : FuncData} (g : G3 K mg "loads_at" (top 14) N_loads_at f fd) (B : Bl mg) : Cal P w K mg base 1 "loads_at" (top 14) N_loads_at spLa:=by
 refine ⟨f,fd,g,?_⟩
 refine fn3 g.fn sc_loads_at (fun ts H Q h => ?_) (fun cdv A outer s H E ts H3 Q hr h => ?_)
 ·
  obtain ⟨p,xs,ys,tn,i,rfl,_⟩:=h; rfl
 ·
  have hu30:=Room.u30 hr
  have hu31:=Room.u31 hr
  have hu1:=Room.u1 hr
  obtain ⟨p,xs,ys,tn,i,rfl,hp,hi,hxy,htn,k⟩:=h
  refine ⟨_,(ss3_one (s3_ret (e3_comp rfl (compSc (n0:=(defScope (top 14)).names) (N:=N_loads_at) (N':=["word","stand","loads"]) (nt:=1) (cap:=[2,0]) rfl rfl (by decide +kernel)) (i3_tup (v3 1)) (fun cl pins s H C0 fp => ⟨(g3_name (i:=0) (show List.Nodup [("word" : Str),("stand" : Str),("loads" : Str)] by decide +kernel)),if3_nil,(e3_ix ix3 (e3_dget hu1 (v3 2) (v3 0)) (v3 1))⟩)))),?_⟩
  rw [show start3 N_loads_at [T.ref p,T.tup (tn.map T.str),T.int (i : Int)] = [some (T.ref p),some (T.tup (tn.map T.str)),some (T.int (i : Int))] from rfl]
  have hsz : sizeLine = 16777216:=rfl
  have k':=Box.mk k
  clear k
  have hl:=htn.l
  walk_at "rd"
  walk_at "cp"
  refine cIter_pure T.str (fun t => .int (pk (xs.getD i 0) (ys.getD i 0) t)) tn [some (.int i),some (.ref p)] trivial (by omega) (fun t ht Q' hq => ?_) (fun q hq => ?_)
  ·
   have e1 : atI (xs.map T.int) (i : Int) = some (.int (xs.getD i 0)):=atI_nat (by rw [List.getElem?_map,List.getElem?_eq_getElem hi,List.getD_eq_getElem?_getD,List.getElem?_eq_getElem hi]; rfl)
   have e2 : atI (ys.map T.int) (i : Int) = some (.int (ys.getD i 0)):=atI_nat (by rw [List.getElem?_map,List.getElem?_eq_getElem (by omega),List.getD_eq_getElem?_getD,List.getElem?_eq_getElem (by omega)]; rfl)
   rcases htn.w t ht with rfl | rfl
   ·
    have l1 : look3 "one" (byW xs ys) = some (.tup (xs.map T.int)):=rfl
    rw [show pk (xs.getD i 0) (ys.getD i 0) "one" = xs.getD i 0 from if_neg (by decide +kernel)] at hq
    walk_at "rd"
   ·
    have l1 : look3 "other" (byW xs ys) = some (.tup (ys.map T.int)):=rfl
    rw [show pk (xs.getD i 0) (ys.getD i 0) "other" = ys.getD i 0 from if_pos rfl] at hq
    walk_at "rd"
  ·
   have:=k'.out q hq
   rw [List.map_map] at this
   exact Fin3.of Sub3.refl this
abbrev N_load_of : List Str:=["works","tasks"]
theorem sc_load_of : FnScope N_load_of N_load_of (defScope (top 4)):=sc_mk
theorem ok_load_of {f : Addr} {fd : FuncData} (g : G3 K mg "load_of" (top 4) N_load_of f fd) (B : Bl mg) : Cal P w K mg base 1 "load_of" (top 4) N_load_of spLo:=by
 refine ⟨f,fd,g,?_⟩
 refine fn3 g.fn sc_load_of (fun ts H Q h => ?_) (fun cdv A outer s H E ts H3 Q hr h => ?_)
 ·
  obtain ⟨W,ns,rfl,_⟩:=h; rfl
 ·
  have hu30:=Room.u30 hr
  have hu31:=Room.u31 hr
  have hu1:=Room.u1 hr
  obtain ⟨⟨tk,ors,prs,row⟩,ns,rfl,t8,k⟩:=h
  refine ⟨_,(ss3_one (s3_ret (e3_callB (c3_sum rfl) rfl B.sum_ bt_sum (a3_cons (e3_comp rfl (compSc (n0:=(defScope (top 4)).names) (N:=N_load_of) (N':=["name","length","kinds","tasks"]) (nt:=3) (cap:=[1]) rfl rfl (by decide +kernel)) (i3_tup (e3_ix ix3 (v3 0) c3_int)) (fun cl pins s H C0 fp => ⟨(g3_tup (n:=3) rfl (gs3_cons (g3_name (i:=0) (show List.Nodup [("name" : Str),("length" : Str),("kinds" : Str),("tasks" : Str)] by decide +kernel)) (gs3_cons (g3_name (i:=1) (show List.Nodup [("name" : Str),("length" : Str),("kinds" : Str),("tasks" : Str)] by decide +kernel)) (gs3_cons (g3_name (i:=2) (show List.Nodup [("name" : Str),("length" : Str),("kinds" : Str),("tasks" : Str)] by decide +kernel)) gs3_nil)))),(if3_one (t3_cmp (o3_in hu31) (v3 0) (v3 3) rfl)),(v3 1)⟩)) a3_nil)))),?_⟩
  rw [show start3 N_load_of [Wk.enc ⟨tk,ors,prs,row⟩,T.tup (ns.map T.str)] = [some (T.tup [T.tup (tk.map tkT),T.tup (ors.map orT),T.tup (prs.map prT),T.tup (row.map T.str)]),some (T.tup (ns.map T.str))] from rfl]
  have hsz : sizeLine = 16777216:=rfl
  have k' : Q (.int (ld tk ns)) H3:=k
  clear k
  replace t8 : tk.length <= 8:=t8
  walk_at "rd"
  walk_at "cp"
  refine cIter_f3 (fun t : Str × Int × List Str => .str t.1) (fun t => .int t.2.1) (fun t => .tup (t.2.2.map T.str)) (fun t => .int t.2.1) (fun t => memB false (.str t.1) (ns.map T.str)) tk [some (.tup (ns.map T.str))] trivial (by omega) (fun t ht Q' hq => ?_) (fun t ht _ Q' hq => hq) ?_
  ·
   clear k'
   walk_at "rd"
   exact ⟨rfl,pl_strs ns,by first | trivial | exact hq⟩
  ·
   intro p hp
   have e : ints3 ((tk.filter (fun t => memB false (.str t.1) (ns.map T.str))).map (fun t => T.int t.2.1)) = some ((tk.filter (fun t => memB false (.str t.1) (ns.map T.str))).map (·.2.1)):=by
    rw [<- ints3_map,List.map_map]; rfl
   rw [e,q_oq]
   exact Fin3.of (Sub3.new hp) k'
abbrev N_loads_of : List Str:=["works","dealing"]
theorem sc_loads_of : FnScope N_loads_of N_loads_of (defScope (top 5)):=sc_mk
theorem ok_loads_of {f : Addr} {fd : FuncData} (g : G3 K mg "loads_of" (top 5) N_loads_of f fd) (B : Bl mg) (F_load_of : Cal P w K mg base 1 "load_of" (top 4) ["works","tasks"] spLo) : Cal P w K mg base 2 "loads_of" (top 5) N_loads_of spLs:=by
 refine ⟨f,fd,g,?_⟩
 refine fn3 g.fn sc_loads_of (fun ts H Q h => ?_) (fun cdv A outer s H E ts H3 Q hr h => ?_)
 ·
  obtain ⟨W,D,rfl,_⟩:=h; rfl
 ·
  have hu30:=Room.u30 hr
  have hu31:=Room.u31 hr
  have hu1:=Room.u1 hr
  obtain ⟨⟨tk,ors,prs,row⟩,D,rfl,t8,d8,k⟩:=h
  refine ⟨_,(ss3_one (s3_ret (e3_callTy c3_tuple rfl B.tuple_ bt_tuple (a3_cons (e3_comp rfl (compSc (n0:=(defScope (top 5)).names) (N:=N_loads_of) (N':=["tasks","works"]) (nt:=1) (cap:=[0]) rfl rfl (by decide +kernel)) (i3_tup (v3 1)) (fun cl pins s H C0 fp => ⟨(g3_name (i:=0) (show List.Nodup [("tasks" : Str),("works" : Str)] by decide +kernel)),if3_nil,(e3_cl F_load_of hr rfl (a3_cons (v3 1) (a3_cons (v3 0) a3_nil)))⟩)) a3_nil)))),?_⟩
  rw [show start3 N_loads_of [Wk.enc ⟨tk,ors,prs,row⟩,T.tup (D.map sT)] = [some (T.tup [T.tup (tk.map tkT),T.tup (ors.map orT),T.tup (prs.map prT),T.tup (row.map T.str)]),some (T.tup (D.map sT))] from rfl]
  have hsz : sizeLine = 16777216:=rfl
  have k' : Q (.tup ((D.map (ld tk)).map T.int)) H3:=k
  clear k
  replace t8 : tk.length <= 8:=t8
  walk_at "rd"
  walk_at "cp"
  refine cIter_pure sT (fun ns => .int (ld tk ns)) D [some (T.tup [T.tup (tk.map tkT),T.tup (ors.map orT),T.tup (prs.map prT),T.tup (row.map T.str)])] trivial (by omega) (fun ns hn Q' hq => ?_) (fun pc hpc => ?_)
  ·
   exact ⟨⟨tk,ors,prs,row⟩,ns,rfl,t8,hq⟩
  ·
   walk_at "rd"
   rw [List.map_map] at k'
   exact Fin3.of (Sub3.new hpc) k'
end
end M
namespace M
open PySem PySem.Spec PyProof.Rows L2 L3
local macro_rules | `(tactic| walk_at "cp") => `(tactic| try dsimp only [cap3,List.replicate,List.map_cons,List.map_nil,List.cons_append,List.nil_append,List.getElem?_cons_zero,List.getElem?_cons_succ,Option.getD_some])
local macro_rules | `(tactic| walk_at "nx") => `(tactic| (obtain ⟨e⟩:=‹Shut (_ = _)›; subst e; try dsimp only))
local macro_rules | `(tactic| walk_at "rd") => do
 let ls <- ((nm0 ++ " q_rep q_rpH q_ins q_insH q_max1 q_mxH q_cnt q_repT q_tyT q_slT' q_tSlT q_revT q_rvT").splitOn " ").toArray.mapM fun n => let i:=Lean.mkIdent n.toName; `(Lean.Parser.Tactic.simpLemma| $i:ident)
 `(tactic| ((try dsimp only [$[$ls:simpLemma],*]); try simp only [*,$[$ls:simpLemma],*]))
section
variable {P : Program} {w : World} {K : PySem.W.Frag} {mg : Str -> Option Value} {base : Heap}
abbrev N_mixed_task : List Str:=["task","other","mix"]
theorem sc_mixed_task : FnScope N_mixed_task N_mixed_task (defScope (top 7)):=sc_mk
theorem ok_mixed_task {f : Addr} {fd : FuncData} (g : G3 K mg "mixed_task" (top 7) N_mixed_task f fd) (B : Bl mg) : Cal P w K mg base 1 "mixed_task" (top 7) N_mixed_task spMt:=by
 refine ⟨f,fd,g,?_⟩
 refine fn3 g.fn sc_mixed_task (fun ts H Q h => ?_) (fun cdv A outer s H E ts H3 Q hr h => ?_)
 ·
  obtain ⟨n,l,o,a,b,ks,rfl,_⟩:=h; rfl
 ·
  have hu30:=Room.u30 hr
  have hu31:=Room.u31 hr
  have hu1:=Room.u1 hr
  obtain ⟨n,l,o,a,b,ks,rfl,ha,hb,k⟩:=h
  refine ⟨_,(ss3_one (s3_ret (e3_tup (a3_cons (e3_ix ix3 (v3 0) c3_int) (a3_cons (e3_op o3_add (e3_op o3_mul (e3_ix ix3 (v3 2) c3_int) (e3_ix ix3 (v3 0) c3_int)) (e3_op o3_mul (e3_ix ix3 (v3 2) c3_int) (v3 1))) (a3_cons (e3_ix ix3 (v3 0) c3_int) a3_nil)))))),?_⟩
  rw [show start3 N_mixed_task [T.tup [T.str n,T.int l,T.tup (ks.map T.str)],T.int o,T.tup [T.int a,T.int b]] = [some (T.tup [T.str n,T.int l,T.tup (ks.map T.str)]),some (T.int o),some (T.tup [T.int a,T.int b])] from rfl]
  have c1:=ha.mul l
  have c2:=hb.mul o
  walk_at "rd"
  exact ⟨by first | trivial | exact c1,by first | trivial | exact c2,by decide,Fin3.of Sub3.refl k⟩
abbrev N_mixed_works : List Str:=["works","others","mix","tasks"]
theorem sc_mixed_works : FnScope N_mixed_works ["works","others","mix"] (defScope (top 8)):=sc_mk
theorem ok_mixed_works {f : Addr} {fd : FuncData} (g : G3 K mg "mixed_works" (top 8) ["works","others","mix"] f fd) (B : Bl mg) (F_mixed_task : Cal P w K mg base 1 "mixed_task" (top 7) ["task","other","mix"] spMt) : Cal P w K mg base 2 "mixed_works" (top 8) ["works","others","mix"] spMw:=by
 refine ⟨f,fd,g,?_⟩
 refine fn3 g.fn sc_mixed_works (fun ts H Q h => ?_) (fun cdv A outer s H E ts H3 Q hr h => ?_)
 ·
  obtain ⟨W,zs,a,b,rfl,_⟩:=h; rfl
 ·
  have hu30:=Room.u30 hr
  have hu31:=Room.u31 hr
  have hu1:=Room.u1 hr
  obtain ⟨⟨tk,ors,prs,row⟩,zs,a,b,rfl,hW,ha,hb,k⟩:=h
  refine ⟨_,(ss3_cons (s3_set (i:=3) sc_mixed_works.nd (e3_callTy c3_tuple rfl B.tuple_ bt_tuple (a3_cons (e3_comp rfl (compSc (n0:=(defScope (top 8)).names) (N:=N_mixed_works) (N':=["task","other","mix"]) (nt:=2) (cap:=[2]) rfl rfl (by decide +kernel)) (i3_zip rfl B.zip_ (a3_cons (e3_ix ix3 (v3 0) c3_int) (a3_cons (v3 1) a3_nil))) (fun cl pins s H C0 fp => ⟨(g3_tup (n:=2) rfl (gs3_cons (g3_name (i:=0) (show List.Nodup [("task" : Str),("other" : Str),("mix" : Str)] by decide +kernel)) (gs3_cons (g3_name (i:=1) (show List.Nodup [("task" : Str),("other" : Str),("mix" : Str)] by decide +kernel)) gs3_nil))),if3_nil,(e3_cl F_mixed_task hr rfl (a3_cons (v3 0) (a3_cons (v3 1) (a3_cons (v3 2) a3_nil))))⟩)) a3_nil)))
    (ss3_one (s3_ret (e3_tup (a3_cons (v3 3) (a3_cons (e3_ix ix3 (v3 0) c3_int) (a3_cons (e3_ix ix3 (v3 0) c3_int) (a3_cons (e3_ix ix3 (v3 0) c3_int) a3_nil)))))))),?_⟩
  rw [show start3 N_mixed_works [Wk.enc ⟨tk,ors,prs,row⟩,T.tup (zs.map T.int),T.tup [T.int a,T.int b]] = [some (T.tup [T.tup (tk.map tkT),T.tup (ors.map orT),T.tup (prs.map prT),T.tup (row.map T.str)]),some (T.tup (zs.map T.int)),some (T.tup [T.int a,T.int b]),none] from rfl]
  have hsz : sizeLine = 16777216:=rfl
  have t8 : tk.length <= 8:=hW.t8
  have k' : Q (.tup [.tup (((tk.zip zs).map (mxK a b)).map tkT),.tup (ors.map orT),.tup (prs.map prT),.tup (row.map T.str)]) H3:=k
  clear k
  have zl : (tk.zip zs).length <= 8:=by rw [List.length_zip]; omega
  walk_at "rd"
  walk_at "cp"
  simp only [zip_pT,pT]
  generalize tk.zip zs = ps at *
  refine cIter_pure2 (fun p : (Str × Int × List Str) × Int => tkT p.1) (fun p => .int p.2) (fun p => tkT (mxK a b p)) ps [some (.tup [.int a,.int b])] trivial (by omega) (fun p hp Q' hq => ?_) (fun pc hpc => ?_)
  ·
   clear k'
   walk_at "rd"
   exact ⟨p.1.1,p.1.2.1,p.2,a,b,p.1.2.2,rfl,ha,hb,hq⟩
  ·
   walk_at "rd"
   refine ⟨by omega,Fin3.of (Sub3.new hpc) ?_⟩
   rw [List.map_map] at k'
   exact k'
abbrev N_round_beat : List Str:=["beat","mix"]
theorem sc_round_beat : FnScope N_round_beat N_round_beat (defScope (top 9)):=sc_mk
theorem ok_round_beat {f : Addr} {fd : FuncData} (g : G3 K mg "round_beat" (top 9) N_round_beat f fd) (B : Bl mg) : Cal P w K mg base 1 "round_beat" (top 9) N_round_beat spRb:=by
 refine ⟨f,fd,g,?_⟩
 refine fn3 g.fn sc_round_beat (fun ts H Q h => ?_) (fun cdv A outer s H E ts H3 Q hr h => ?_)
 ·
  obtain ⟨t,a,b,rfl,_⟩:=h; rfl
 ·
  have hu30:=Room.u30 hr
  have hu31:=Room.u31 hr
  have hu1:=Room.u1 hr
  obtain ⟨t,a,b,rfl,ha,hb,k⟩:=h
  refine ⟨_,(ss3_one (s3_ret (e3_op o3_mul (v3 0) (e3_op o3_add (e3_ix ix3 (v3 1) c3_int) (e3_ix ix3 (v3 1) c3_int))))),?_⟩
  rw [show start3 N_round_beat [T.int t,T.tup [T.int a,T.int b]] = [some (T.int t),some (T.tup [T.int a,T.int b])] from rfl]
  have c1 : CMul t (a + b):=.inr ⟨by have:=ha.1; have:=hb.1; omega,by have:=ha.2; have:=hb.2; omega⟩
  walk_at "rd"
  exact ⟨by first | trivial | exact c1,Fin3.of Sub3.refl k⟩
end
end M
namespace M
open PySem PySem.Spec PyProof.Rows L2 L3
local macro_rules | `(tactic| walk_at "cp") => `(tactic| try dsimp only [cap3,List.replicate,List.map_cons,List.map_nil,List.cons_append,List.nil_append,List.getElem?_cons_zero,List.getElem?_cons_succ,Option.getD_some])
local macro_rules | `(tactic| walk_at "nx") => `(tactic| (obtain ⟨e⟩:=‹Shut (_ = _)›; subst e; try dsimp only))
local macro_rules | `(tactic| walk_at "rd") => do
 let ls <- ((nm0 ++ " q_dgP q_dgPH q_dpP q_dpPH tDGetP3 sDPutP3 tDNew3 tDNewP3 tDisp1 q_d1q tDIn3 q_diq q_diH q_iSeqV q_iEnumT q_enTq q_any q_anH q_max2 q_min2 q_rep q_rpH q_ins q_insH q_max1 q_mxH q_cnt q_repT q_tyT q_slT' q_tSlT q_revT q_rvT").splitOn " ").toArray.mapM fun n => let i:=Lean.mkIdent n.toName; `(Lean.Parser.Tactic.simpLemma| $i:ident)
 `(tactic| ((try dsimp only [$[$ls:simpLemma],*]); try simp only [*,$[$ls:simpLemma],*]))
section
variable {P : Program} {w : World} {K : PySem.W.Frag} {mg : Str -> Option Value} {base : Heap}
abbrev N_check_round : List Str:=["works","others","beat","dealing","mix","most","tasks","load"]
theorem sc_check_round : FnScope N_check_round ["works","others","beat","dealing","mix"] (defScope (top 11)):=sc_mk
theorem ok_check_round {f : Addr} {fd : FuncData} (g : G3 K mg "check_round" (top 11) ["works","others","beat","dealing","mix"] f fd) (B : Bl mg) (F_loads_of : Cal P w K mg base 2 "loads_of" (top 5) ["works","dealing"] spLs) (F_mixed_works : Cal P w K mg base 2 "mixed_works" (top 8) ["works","others","mix"] spMw) (F_round_beat : Cal P w K mg base 1 "round_beat" (top 9) ["beat","mix"] spRb) : Cal P w K mg base 3 "check_round" (top 11) ["works","others","beat","dealing","mix"] spCr:=by
 refine ⟨f,fd,g,?_⟩
 refine fn3 g.fn sc_check_round (fun ts H Q h => ?_) (fun cdv A outer s H E ts H3 Q hr h => ?_)
 ·
  obtain ⟨W,zs,beat,D,a,b,rfl,_⟩:=h; rfl
 ·
  have hu30:=Room.u30 hr
  have hu31:=Room.u31 hr
  have hu1:=Room.u1 hr
  obtain ⟨⟨tk,ors,prs,row⟩,zs,beat,D,a,b,rfl,hW,d8,ha,hb,hf,k⟩:=h
  refine ⟨_,(ss3_cons (s3_set (i:=5) sc_check_round.nd (e3_cl F_round_beat hr rfl (a3_cons (v3 2) (a3_cons (v3 4) a3_nil))))
    (ss3_one (s3_for PassesOwn.never rfl (i3_zip rfl B.zip_ (a3_cons (v3 3) (a3_cons (e3_cl F_loads_of hr rfl (a3_cons (e3_cl F_mixed_works hr rfl (a3_cons (v3 0) (a3_cons (v3 1) (a3_cons (v3 4) a3_nil)))) (a3_cons (v3 3) a3_nil))) a3_nil))) (g3_tup (n:=2) rfl (gs3_cons (g3_name (i:=6) sc_check_round.nd) (gs3_cons (g3_name (i:=7) sc_check_round.nd) gs3_nil))) (ss3_one (s3_if (t3_cmp o3_gt (v3 7) (v3 5)) (ss3_one s3_dead) ss3_nil))))),?_⟩
  rw [show start3 N_check_round [Wk.enc ⟨tk,ors,prs,row⟩,T.tup (zs.map T.int),T.int beat,T.tup (D.map sT),T.tup [T.int a,T.int b]] = [some (T.tup [T.tup (tk.map tkT),T.tup (ors.map orT),T.tup (prs.map prT),T.tup (row.map T.str)]),some (T.tup (zs.map T.int)),some (T.int beat),some (T.tup (D.map sT)),some (T.tup [T.int a,T.int b]),none,none,none] from rfl]
  have hsz : sizeLine = 16777216:=rfl
  have t8 : tk.length <= 8:=hW.t8
  replace hf : ∀ ns ∈ D,ld ((tk.zip zs).map (mxK a b)) ns <= beat * (a + b):=hf
  have hf':=Box.mk hf
  clear hf
  refine seq_cut fun R0 hR0 => ?_
  walk_at "rd"
  refine ⟨beat,a,b,rfl,ha,hb,?_⟩
  walk_at "nx"
  walk_at "rd"
  refine ⟨⟨tk,ors,prs,row⟩,zs,a,b,rfl,hW,ha,hb,?_⟩
  try dsimp only
  refine ⟨⟨(tk.zip zs).map (mxK a b),ors,prs,row⟩,D,rfl,by show ((tk.zip zs).map (mxK a b)).length <= 8; rw [List.length_map,List.length_zip]; omega,d8,?_⟩
  try dsimp only
  walk_at "rd"
  rw [zip_ld]
  refine iter_pre (fun ns => .tup [sT ns,.int (ld ((tk.zip zs).map (mxK a b)) ns)]) D (fun A σ H => ∃ (v6 v7 : Option T),σ = [some (T.tup [T.tup (tk.map tkT),T.tup (ors.map orT),T.tup (prs.map prT),T.tup (row.map T.str)]),some (.tup (zs.map T.int)),some (.int beat),some (.tup (D.map sT)),some (.tup [.int a,.int b]),some (.int (beat * (a + b))),v6,v7] /\ H = H3) ⟨_,_,rfl,rfl⟩ ?_ ?_
  ·
   rintro σ H ⟨v6,v7,rfl,rfl⟩
   exact ⟨trivial,Fin3.of Sub3.refl k⟩
  ·
   rintro A ns B σ H N e ⟨v6,v7,rfl,rfl⟩ hN
   refine ⟨trivial,?_⟩
   have h1 : ¬ (beat * (a + b) < ld ((tk.zip zs).map (mxK a b)) ns):=Int.not_lt.mpr (hf'.out ns (by rw [e]; simp))
   have hN':=hN [some (T.tup [T.tup (tk.map tkT),T.tup (ors.map orT),T.tup (prs.map prT),T.tup (row.map T.str)]),some (.tup (zs.map T.int)),some (.int beat),some (.tup (D.map sT)),some (.tup [.int a,.int b]),some (.int (beat * (a + b))),some (sT ns),some (.int (ld ((tk.zip zs).map (mxK a b)) ns))] H ⟨_,_,rfl,rfl⟩
   clear hN e k
   walk_at "rd"
   first | trivial | exact ⟨trivial,trivial⟩
abbrev N_loads_by_word : List Str:=["works","others","dealing"]
theorem sc_loads_by_word : FnScope N_loads_by_word N_loads_by_word (defScope (top 12)):=sc_mk
theorem ok_loads_by_word {f : Addr} {fd : FuncData} (g : G3 K mg "loads_by_word" (top 12) N_loads_by_word f fd) (B : Bl mg) (F_loads_of : Cal P w K mg base 2 "loads_of" (top 5) ["works","dealing"] spLs) (F_mixed_works : Cal P w K mg base 2 "mixed_works" (top 8) ["works","others","mix"] spMw) : Cal P w K mg base 3 "loads_by_word" (top 12) N_loads_by_word spLw:=by
 refine ⟨f,fd,g,?_⟩
 refine fn3 g.fn sc_loads_by_word (fun ts H Q h => ?_) (fun cdv A outer s H E ts H3 Q hr h => ?_)
 ·
  obtain ⟨W,zs,D,rfl,_⟩:=h; rfl
 ·
  have hu30:=Room.u30 hr
  have hu31:=Room.u31 hr
  have hu1:=Room.u1 hr
  obtain ⟨⟨tk,ors,prs,row⟩,zs,D,rfl,hW,d8,hl,k⟩:=h
  refine ⟨_,(ss3_one (s3_ret (e3_disp (ps3_cons (e3_cl F_loads_of hr rfl (a3_cons (v3 0) (a3_cons (v3 2) a3_nil))) (ps3_cons (e3_cl F_loads_of hr rfl (a3_cons (e3_cl F_mixed_works hr rfl (a3_cons (v3 0) (a3_cons (v3 1) (a3_cons (e3_tup (a3_cons c3_int (a3_cons c3_int a3_nil))) a3_nil)))) (a3_cons (v3 2) a3_nil))) ps3_nil))))),?_⟩
  rw [show start3 N_loads_by_word [Wk.enc ⟨tk,ors,prs,row⟩,T.tup (zs.map T.int),T.tup (D.map sT)] = [some (T.tup [T.tup (tk.map tkT),T.tup (ors.map orT),T.tup (prs.map prT),T.tup (row.map T.str)]),some (T.tup (zs.map T.int)),some (T.tup (D.map sT))] from rfl]
  have hsz : sizeLine = 16777216:=rfl
  have t8 : tk.length <= 8:=hW.t8
  replace k : ∀ p,H3 p = none -> Q (.ref p) (up3 H3 p (.dct (byW (D.map (ld tk)) (D.map (ld2 (tk.zip zs)))))):=k
  replace hl : tk.length = zs.length:=hl
  have k':=Box.mk k
  clear k
  walk_at "rd"
  intro p hp
  refine ⟨⟨tk,ors,prs,row⟩,D,rfl,t8,d8,by decide,⟨tk,ors,prs,row⟩,zs,0,1,rfl,hW,⟨by decide,by decide⟩,⟨by decide,by decide⟩,?_⟩
  refine ⟨⟨(tk.zip zs).map (mxK 0 1),ors,prs,row⟩,D,rfl,by show ((tk.zip zs).map (mxK 0 1)).length <= 8; rw [List.length_map,List.length_zip]; omega,d8,up3_same,by decide,?_⟩
  rw [up3_up3]
  have e : D.map (ld ((tk.zip zs).map (mxK 0 1))) = D.map (ld2 (tk.zip zs)):=List.map_congr_left fun ns _ => by rw [ld_mix _ _ _ _ _ hl]; omega
  rw [show D.map (ld (Wk.mk ((tk.zip zs).map (mxK 0 1)) ors prs row).tasks) = D.map (ld2 (tk.zip zs)) from e]
  exact Fin3.of Sub3.refl (k'.out p hp)
abbrev N_row_lag : List Str:=["beat","loads","turns"]
theorem sc_row_lag : FnScope N_row_lag N_row_lag (defScope (top 15)):=sc_mk
theorem ok_row_lag {f : Addr} {fd : FuncData} (g : G3 K mg "row_lag" (top 15) N_row_lag f fd) (B : Bl mg) (F_stand_lag : Cal P w K mg base 1 "stand_lag" (top 13) ["beat","loads"] spSl) (F_loads_at : Cal P w K mg base 1 "loads_at" (top 14) ["loads","turns","stand"] spLa) : Cal P w K mg base 2 "row_lag" (top 15) N_row_lag spRl:=by
 refine ⟨f,fd,g,?_⟩
 refine fn3 g.fn sc_row_lag (fun ts H Q h => ?_) (fun cdv A outer s H E ts H3 Q hr h => ?_)
 ·
  obtain ⟨beat,p,xs,ys,tn,rfl,_⟩:=h; rfl
 ·
  have hu30:=Room.u30 hr
  have hu31:=Room.u31 hr
  have hu1:=Room.u1 hr
  obtain ⟨beat,p,xs,ys,tn,rfl,hp,h1,h8,hxy,htn,k⟩:=h
  refine ⟨_,(ss3_one (s3_ret (e3_callB (c3_max1 rfl) rfl B.max_ bt_max (a3_cons (e3_comp rfl (compSc (n0:=(defScope (top 15)).names) (N:=N_row_lag) (N':=["stand","beat","loads","turns"]) (nt:=1) (cap:=[0,1,2]) rfl rfl (by decide +kernel)) (i3_range1 rfl B.range_ (a3_cons (e3_callB c3_len rfl B.len_ bt_len (a3_cons (e3_dget hu1 (v3 1) c3_str) a3_nil)) a3_nil)) (fun cl pins s H C0 fp => ⟨(g3_name (i:=0) (show List.Nodup [("stand" : Str),("beat" : Str),("loads" : Str),("turns" : Str)] by decide +kernel)),if3_nil,(e3_cl F_stand_lag hr rfl (a3_cons (v3 1) (a3_cons (e3_cl F_loads_at hr rfl (a3_cons (v3 2) (a3_cons (v3 3) (a3_cons (v3 0) a3_nil)))) a3_nil)))⟩)) a3_nil)))),?_⟩
  rw [show start3 N_row_lag [T.int beat,T.ref p,T.tup (tn.map T.str)] = [some (T.int beat),some (T.ref p),some (T.tup (tn.map T.str))] from rfl]
  have hsz : sizeLine = 16777216:=rfl
  have k':=Box.mk k
  clear k
  have l1 : look3 "one" (byW xs ys) = some (.tup (xs.map T.int)):=rfl
  have hl:=htn.l
  have hxy':=Box.mk hxy
  clear hxy
  walk_at "rd"
  refine ⟨trivial,by omega,by omega,?_⟩
  rw [show rng3 0 xs.length = (List.range xs.length).map (fun (i : Nat) => T.int (i : Int)) from rng0 _]
  walk_at "cp"
  refine cIter_pre (fun (i : Nat) => T.int (i : Int)) (List.range xs.length) (fun A zs σ H => ∃ v,σ = [v,some (.int beat),some (.ref p),some (.tup (tn.map T.str))] /\ zs = (A.map fun i => S2 beat (xs.getD i 0) (ys.getD i 0) tn).map T.int /\ Sub3 H3 H) ⟨_,rfl,rfl,Sub3.refl⟩ ?_ ?_
  ·
   rintro zs σ H ⟨v,rfl,rfl,hS⟩
   refine ⟨trivial,by simp only [List.length_map,List.length_range]; omega,fun q hq => ?_⟩
   walk_at "rd"
   rw [ints3_map,q_oq]
   refine ⟨?_,fun M hM hA => Fin3.of (hS.trans (Sub3.new hq)) (k'.out M ⟨hM,hA⟩)⟩
   intro e
   have:=congrArg List.length e
   rw [List.length_map,List.length_range,List.length_nil] at this
   omega
  ·
   rintro A i B zs σ H N e ⟨v,rfl,rfl,hS⟩ hN
   refine ⟨trivial,?_⟩
   have hi : i < xs.length:=List.mem_range.mp (by rw [e]; simp)
   have hA : A.length < xs.length:=by
    have:=congrArg List.length e
    simp only [List.length_append,List.length_cons,List.length_range] at this
    omega
   have hN':=Box.mk hN
   have hp':=hS _ _ hp
   clear hN e hp k' l1
   walk_at "rd"
   refine ⟨p,xs,ys,tn,i,rfl,hp',hi,hxy'.out,htn,fun q hq => ?_⟩
   refine ⟨beat,q,tn.map (pk (xs.getD i 0) (ys.getD i 0)),rfl,up3_same,by rw [List.length_map]; omega,?_⟩
   have hz : ((A.map fun i => S2 beat (xs.getD i 0) (ys.getD i 0) tn).map T.int).length = A.length:=by simp
   have ha : ((A ++ [i]).map fun i => S2 beat (xs.getD i 0) (ys.getD i 0) tn).map T.int = (A.map fun i => S2 beat (xs.getD i 0) (ys.getD i 0) tn).map T.int ++ [T.int (S2 beat (xs.getD i 0) (ys.getD i 0) tn)]:=by simp
   exact ⟨by first | omega | exact Nat.lt_of_le_of_lt (Nat.le_of_eq hz) (by omega),hN'.out _ _ _ ⟨_,rfl,ha.symm,hS.trans (Sub3.new hq)⟩⟩
end
end M
namespace M
open PySem PySem.Spec PyProof.Rows L2 L3
local macro_rules | `(tactic| walk_at "cp") => `(tactic| try dsimp only [cap3,List.replicate,List.map_cons,List.map_nil,List.cons_append,List.nil_append,List.getElem?_cons_zero,List.getElem?_cons_succ,Option.getD_some])
local macro_rules | `(tactic| walk_at "nx") => `(tactic| (obtain ⟨e⟩:=‹Shut (_ = _)›; subst e; try dsimp only))
local macro_rules | `(tactic| walk_at "rd") => do
 let ls <- ((nm0 ++ " q_dgP q_dgPH q_dpP q_dpPH tDGetP3 sDPutP3 tDNew3 tDNewP3 tDisp1 q_d1q tDIn3 q_diq q_diH q_iSeqV q_iEnumT q_enTq q_any q_anH q_max2 q_min2 q_rep q_rpH q_ins q_insH q_max1 q_mxH q_cnt q_repT q_tyT q_slT' q_tSlT q_revT q_rvT q_min1 q_dgPI q_dpPI").splitOn " ").toArray.mapM fun n => let i:=Lean.mkIdent n.toName; `(Lean.Parser.Tactic.simpLemma| $i:ident)
 `(tactic| ((try dsimp only [$[$ls:simpLemma],*]); try simp only [*,$[$ls:simpLemma],*]))
section
variable {P : Program} {w : World} {K : PySem.W.Frag} {mg : Str -> Option Value} {base : Heap}
abbrev N_all_turns : List Str:=["one","other","turns"]
theorem sc_all_turns : FnScope N_all_turns ["one","other"] (defScope (top 16)):=sc_mk
theorem ok_all_turns {n m : Nat} {f : Addr} {fd : FuncData} (g : G3 K mg "all_turns" (top 16) ["one","other"] f fd) (B : Bl mg) (F_all_turns : Cal P w K mg base n "all_turns" (top 16) ["one","other"] (spB m)) : Cal P w K mg base (n + 1) "all_turns" (top 16) ["one","other"] (spB (m + 1)):=by
 refine ⟨f,fd,g,?_⟩
 refine fn3 g.fn sc_all_turns (fun ts H Q h => ?_) (fun cdv A outer s H E ts H3 Q hr h => ?_)
 ·
  obtain ⟨a,b,rfl,_⟩:=h; rfl
 ·
  have hu30:=Room.u30 hr
  have hu31:=Room.u31 hr
  have hu1:=Room.u1 hr
  obtain ⟨a,b,rfl,hab,hm,k⟩:=h
  refine ⟨_,(ss3_cons (s3_if (PW3.pt (w3_and (t3_cmp (o3_eq hu30) (v3 0) c3_int) (w3_and1 (t3_cmp (o3_eq hu30) (v3 1) c3_int)))) (ss3_one (s3_ret (e3_lst (a3_cons (e3_tup a3_nil) a3_nil)))) ss3_nil)
    (ss3_cons (s3_set (i:=2) sc_all_turns.nd (e3_lst a3_nil))
    (ss3_cons (s3_if (t3_cmp o3_gt (v3 0) c3_int) (ss3_one (s3_expr (e3_bm PySem.F.plainAttrs_list PySem.F.slot_list_extend PySem.F.type_list_extend m3_extend (v3 2) (a3_cons (e3_comp rfl (compSc (n0:=(defScope (top 16)).names) (N:=N_all_turns) (N':=["behind"]) (nt:=1) (cap:=[]) rfl rfl (by decide +kernel)) (i3_list (e3_cl0 F_all_turns hr rfl (a3_cons (e3_op o3_sub (v3 0) c3_int) (a3_cons (v3 1) a3_nil)))) (fun cl pins s H C0 fp => ⟨(g3_name (i:=0) (show List.Nodup [("behind" : Str)] by decide +kernel)),if3_nil,(e3_op o3_add (e3_tup (a3_cons c3_str a3_nil)) (v3 0))⟩)) a3_nil)))) ss3_nil)
    (ss3_cons (s3_if (t3_cmp o3_gt (v3 1) c3_int) (ss3_one (s3_expr (e3_bm PySem.F.plainAttrs_list PySem.F.slot_list_extend PySem.F.type_list_extend m3_extend (v3 2) (a3_cons (e3_comp rfl (compSc (n0:=(defScope (top 16)).names) (N:=N_all_turns) (N':=["behind"]) (nt:=1) (cap:=[]) rfl rfl (by decide +kernel)) (i3_list (e3_cl0 F_all_turns hr rfl (a3_cons (v3 0) (a3_cons (e3_op o3_sub (v3 1) c3_int) a3_nil)))) (fun cl pins s H C0 fp => ⟨(g3_name (i:=0) (show List.Nodup [("behind" : Str)] by decide +kernel)),if3_nil,(e3_op o3_add (e3_tup (a3_cons c3_str a3_nil)) (v3 0))⟩)) a3_nil)))) ss3_nil)
    (ss3_one (s3_ret (v3 2))))))),?_⟩
  rw [show start3 N_all_turns [T.int (a : Int),T.int (b : Int)] = [some (T.int (a : Int)),some (T.int (b : Int)),none] from rfl]
  have hsz : sizeLine = 16777216:=rfl
  have k':=Box.mk k
  clear k
  refine seq_cut fun R0 hR0 => ?_
  walk_at "rd"
  by_cases h0 : a + b = 0
  ·
   obtain ⟨rfl,rfl⟩ : a = 0 /\ b = 0:=⟨by omega,by omega⟩
   rw [if_pos (by decide),if_pos (by decide)]
   exact ⟨by decide,by decide,fun p hp => Fin3.of Sub3.refl (k'.out p hp)⟩
  obtain ⟨c,hc⟩ : ∃ c,a + b = c + 1:=⟨a + b - 1,by omega⟩
  obtain ⟨m,rfl⟩ : ∃ m',m = m' + 1:=⟨m - 1,by omega⟩
  suffices key : R0 { nx:=fun x H' => Fin3 Q T.non H',rt:=Fin3 Q } [some (T.int a),some (T.int b),none] H3 by
   by_cases ha : (a : Int) = 0
   ·
    rw [if_pos (decide_eq_true ha),if_neg (by rw [decide_eq_false (show ¬ (b : Int) = 0 by omega)]; exact Bool.false_ne_true)]
    exact key
   ·
    rw [if_neg (by rw [decide_eq_false ha]; exact Bool.false_ne_true)]
    exact key
  have l1 : (allF c (a - 1) b).length <= 1024:=Nat.le_trans (allF_len _ _ _) (Nat.pow_le_pow_right (by decide) (show c <= 10 by omega))
  have l2 : (allF c a (b - 1)).length <= 1024:=Nat.le_trans (allF_len _ _ _) (Nat.pow_le_pow_right (by decide) (show c <= 10 by omega))
  have k2:=k'.out
  rw [hc] at k2
  have k3:=Box.mk k2
  clear k' k2
  walk_at "nx"
  refine seq_cut fun R1 hR1 => ?_
  walk_at "rd"
  refine ⟨by omega,fun p hp => ?_⟩
  have g1 : up3 H3 p (.lst []) p = some (.lst []):=up3_same
  have hS1 : Sub3 H3 (up3 H3 p (.lst [])):=Sub3.new hp
  generalize up3 H3 p (.lst []) = H1 at g1 hS1
  walk_at "nx"
  refine seq_cut fun R2 hR2 => ?_
  have go2 : ∀ (H2 : Hp3) (L1 : List (List Str)),L1 = (if 0 < a then (allF c (a - 1) b).map (("one" : Str) :: ·) else []) -> Sub3 H3 H2 -> H2 p = some (.lst (L1.map sT)) -> R2 { nx:=fun x H' => Fin3 Q T.non H',rt:=Fin3 Q } [some (T.int a),some (T.int b),some (T.ref p)] H2:=by
   intro H2 L1 eL hS2 g2
   walk_at "nx"
   have ll : L1.length <= 1024:=by
    rw [eL]; split
    ·
     rw [List.length_map]; exact l1
    ·
     exact Nat.zero_le _
   refine seq_cut fun R3 hR3 => ?_
   have fin : ∀ (H2 : Hp3) (L2 : List (List Str)),L2 = (if 0 < b then (allF c a (b - 1)).map (("other" : Str) :: ·) else []) -> Sub3 H3 H2 -> H2 p = some (.lst ((L1 ++ L2).map sT)) -> R3 { nx:=fun x H' => Fin3 Q T.non H',rt:=Fin3 Q } [some (T.int a),some (T.int b),some (T.ref p)] H2:=by
    intro H2 L2 eL2 hS2 g2
    walk_at "nx"
    have kk:=k3.out p hp
    have ee : allF (c + 1) a b = L1 ++ L2:=by rw [eL,eL2]; rfl
    rw [ee] at kk
    clear eL eL2 ee
    walk_at "rd"
    exact Fin3.of (sub_at hS2 g2) kk
   have hb' : ((b : Int) - 1) = ((b - 1 : Nat) : Int) \/ b = 0:=by omega
   have g2':=Box.mk g2
   have hc':=Box.mk hc
   clear eL k3 hc g2
   walk_at "rd"
   by_cases hb : 0 < b
   ·
    rw [if_pos (decide_eq_true (by omega))]
    refine ⟨⟨trivial,by rw [g2'.out]; trivial⟩,?_⟩
    rw [show ((b : Int) - 1) = ((b - 1 : Nat) : Int) by omega]
    refine ⟨a,b - 1,rfl,by omega,by omega,fun q hq => ?_⟩
    have eF:=Box.mk (show a + (b - 1) = c by have:=hc'.out; omega)
    have gq : up3 H2 q (.lst ((allF (a + (b - 1)) a (b - 1)).map sT)) q = some (.lst ((allF c a (b - 1)).map sT)):=by rw [up3_same,eF.out]
    have g3 : up3 H2 q (.lst ((allF (a + (b - 1)) a (b - 1)).map sT)) p = some (.lst (L1.map sT)):=by rw [up3_ne (ne3n g2'.out hq)]; exact g2'.out
    have hS3:=hS2.trans (Sub3.new (o:=.lst ((allF (a + (b - 1)) a (b - 1)).map sT)) hq)
    generalize up3 H2 q (.lst ((allF (a + (b - 1)) a (b - 1)).map sT)) = H5 at gq g3 hS3
    walk_at "rd"
    walk_at "cp"
    refine cIter_pure sT (fun ns => sT ("other" :: ns)) (allF c a (b - 1)) [] (.inl gq) (by omega) (fun ns hn Q' hq' => ?_) (fun r hr => ?_)
    ·
     clear gq g3 g2' hR3
     have hnl : ns.length <= 10:=by rw [(allF_trn c a (b - 1) (by have:=hc'.out; omega) ns hn).l]; omega
     walk_at "rd"
     exact ⟨by decide,by show [T.str "other"].length + (ns.map T.str).length <= _; rw [List.length_map,List.length_singleton]; omega,hq'⟩
    ·
     have gr : up3 H5 r (.lst ((allF c a (b - 1)).map fun ns => sT ("other" :: ns))) p = some (.lst (L1.map sT)):=by rw [up3_ne (ne3n g3 hr)]; exact g3
     rw [gr,q_exH]
     refine ⟨by rw [List.length_map,List.length_map]; omega,fin _ ((allF c a (b - 1)).map (("other" : Str) :: ·)) (by rw [if_pos hb]) (sub_upn hp (hS3.trans (Sub3.new hr))) ?_⟩
     rw [up3_same,List.map_append,List.map_map]
     rfl
   ·
    rw [if_neg (by rw [decide_eq_false (by omega)]; exact Bool.false_ne_true)]
    exact fin H2 [] (by rw [if_neg hb]) hS2 (by rw [List.append_nil]; exact g2'.out)
  have go2':=Box.mk go2
  have g1':=Box.mk g1
  have hc':=Box.mk hc
  clear go2 hR2 k3 hc g1
  walk_at "rd"
  by_cases ha : 0 < a
  ·
   rw [if_pos (decide_eq_true (by omega))]
   refine ⟨⟨trivial,by rw [g1'.out]; trivial⟩,?_⟩
   rw [show ((a : Int) - 1) = ((a - 1 : Nat) : Int) by omega]
   refine ⟨a - 1,b,rfl,by omega,by omega,fun q hq => ?_⟩
   have eF:=Box.mk (show a - 1 + b = c by have:=hc'.out; omega)
   have gq : up3 H1 q (.lst ((allF (a - 1 + b) (a - 1) b).map sT)) q = some (.lst ((allF c (a - 1) b).map sT)):=by rw [up3_same,eF.out]
   have g3 : up3 H1 q (.lst ((allF (a - 1 + b) (a - 1) b).map sT)) p = some (.lst []):=by rw [up3_ne (ne3n g1'.out hq)]; exact g1'.out
   have hS3:=hS1.trans (Sub3.new (o:=.lst ((allF (a - 1 + b) (a - 1) b).map sT)) hq)
   generalize up3 H1 q (.lst ((allF (a - 1 + b) (a - 1) b).map sT)) = H5 at gq g3 hS3
   walk_at "rd"
   walk_at "cp"
   refine cIter_pure sT (fun ns => sT ("one" :: ns)) (allF c (a - 1) b) [] (.inl gq) (by omega) (fun ns hn Q' hq' => ?_) (fun r hr => ?_)
   ·
    clear gq g3 g1' go2'
    have hnl : ns.length <= 10:=by rw [(allF_trn c (a - 1) b (by have:=hc'.out; omega) ns hn).l]; omega
    walk_at "rd"
    exact ⟨by decide,by show [T.str "one"].length + (ns.map T.str).length <= _; rw [List.length_map,List.length_singleton]; omega,hq'⟩
   ·
    have gr : up3 H5 r (.lst ((allF c (a - 1) b).map fun ns => sT ("one" :: ns))) p = some (.lst []):=by rw [up3_ne (ne3n g3 hr)]; exact g3
    rw [gr,q_exH]
    refine ⟨by rw [List.length_map,List.length_nil]; omega,go2'.out _ ((allF c (a - 1) b).map (("one" : Str) :: ·)) (by rw [if_pos ha]) (sub_upn hp (hS3.trans (Sub3.new hr))) ?_⟩
    rw [up3_same,List.nil_append,List.map_map]
    rfl
  ·
   rw [if_neg (by rw [decide_eq_false (by omega)]; exact Bool.false_ne_true)]
   exact go2'.out H1 [] (by rw [if_neg ha]) hS1 g1'.out
theorem all0 {f : Addr} {fd : FuncData} (g : G3 K mg "all_turns" (top 16) ["one","other"] f fd) : Cal P w K mg base 0 "all_turns" (top 16) ["one","other"] (spB 0) :=
 ⟨f,fd,g,⟨fun _ _ _ _ h => by obtain ⟨_,_,_,_,_,h,_⟩:=h; exact h.elim,fun _ _ _ _ _ _ _ _ _ _ _ _ _ h => by obtain ⟨_,_,_,_,_,h,_⟩:=h; exact h.elim⟩⟩
def spLst : Sp3:=fun ts H Q => ∃ (W : Wk) (zs : List Int) (beat : Int) (D : List (List Str)) (a b : Nat),ts = [W.enc,.tup (zs.map T.int),.int beat,.tup (D.map sT),.tup [.int a,.int b]] /\ WkOk W /\ W.tasks.length = zs.length /\ 1 <= D.length /\ D.length <= 8 /\ 1 <= a /\ a <= 5 /\ 1 <= b /\ b <= 5 /\
 Fits W.tasks zs beat D a b /\ Q (leastT (lagV W.tasks zs beat D) (allF (a + b) a b)) H
abbrev N_least_lag : List Str:=["works","others","beat","dealing","mix","loads"]
theorem sc_least_lag : FnScope N_least_lag ["works","others","beat","dealing","mix"] (defScope (top 17)):=sc_mk
theorem ok_least_lag {f : Addr} {fd : FuncData} (g : G3 K mg "least_lag" (top 17) ["works","others","beat","dealing","mix"] f fd) (B : Bl mg) (F_check_round : Cal P w K mg base 3 "check_round" (top 11) ["works","others","beat","dealing","mix"] spCr) (F_loads_by_word : Cal P w K mg base 3 "loads_by_word" (top 12) ["works","others","dealing"] spLw) (F_row_lag : Cal P w K mg base 2 "row_lag" (top 15) ["beat","loads","turns"] spRl) (F_all_turns : Cal P w K mg base 11 "all_turns" (top 16) ["one","other"] (spB 11)) : Cal P w K mg base 12 "least_lag" (top 17) ["works","others","beat","dealing","mix"] spLst:=by
 refine ⟨f,fd,g,?_⟩
 refine fn3 g.fn sc_least_lag (fun ts H Q h => ?_) (fun cdv A outer s H E ts H3 Q hr h => ?_)
 ·
  obtain ⟨W,zs,beat,D,a,b,rfl,_⟩:=h; rfl
 ·
  have hu30:=Room.u30 hr
  have hu31:=Room.u31 hr
  have hu1:=Room.u1 hr
  obtain ⟨⟨tk,ors,prs,row⟩,zs,beat,D,a,b,rfl,hW,hl,d1,d8,a1,a5,b1,b5,hf,k⟩:=h
  refine ⟨_,(ss3_cons (s3_expr (e3_cl F_check_round hr rfl (a3_cons (v3 0) (a3_cons (v3 1) (a3_cons (v3 2) (a3_cons (v3 3) (a3_cons (v3 4) a3_nil)))))))
    (ss3_cons (s3_set (i:=5) sc_least_lag.nd (e3_cl F_loads_by_word hr rfl (a3_cons (v3 0) (a3_cons (v3 1) (a3_cons (v3 3) a3_nil)))))
    (ss3_one (s3_ret (e3_callB (c3_min1 rfl (u16 hu30)) rfl B.min_ bt_min (a3_cons (e3_comp rfl (compSc (n0:=(defScope (top 17)).names) (N:=N_least_lag) (N':=["turns","beat","loads"]) (nt:=1) (cap:=[2,5]) rfl rfl (by decide +kernel)) (i3_list (e3_cl0 F_all_turns hr rfl (a3_cons (e3_ix ix3 (v3 4) c3_int) (a3_cons (e3_ix ix3 (v3 4) c3_int) a3_nil)))) (fun cl pins s H C0 fp => ⟨(g3_name (i:=0) (show List.Nodup [("turns" : Str),("beat" : Str),("loads" : Str)] by decide +kernel)),if3_nil,(e3_tup (a3_cons (e3_cl F_row_lag hr rfl (a3_cons (v3 1) (a3_cons (v3 2) (a3_cons (v3 0) a3_nil)))) (a3_cons (v3 0) a3_nil)))⟩)) a3_nil)))))),?_⟩
  rw [show start3 N_least_lag [Wk.enc ⟨tk,ors,prs,row⟩,T.tup (zs.map T.int),T.int beat,T.tup (D.map sT),T.tup [T.int (a : Int),T.int (b : Int)]] = [some (T.tup [T.tup (tk.map tkT),T.tup (ors.map orT),T.tup (prs.map prT),T.tup (row.map T.str)]),some (T.tup (zs.map T.int)),some (T.int beat),some (T.tup (D.map sT)),some (T.tup [T.int (a : Int),T.int (b : Int)]),none] from rfl]
  have hsz : sizeLine = 16777216:=rfl
  replace k : Q (leastT (lagV tk zs beat D) (allF (a + b) a b)) H3:=k
  replace hl : tk.length = zs.length:=hl
  replace hf : Fits tk zs beat D a b:=hf
  have k':=Box.mk k
  have hf':=Box.mk hf
  clear k hf
  refine seq_cut fun R0 hR0 => ?_
  walk_at "rd"
  refine ⟨⟨tk,ors,prs,row⟩,zs,beat,D,a,b,rfl,hW,d8,⟨by omega,by omega⟩,⟨by omega,by omega⟩,fun ns hn => ?_,?_⟩
  ·
   rw [ld_mix _ _ _ _ _ hl]; exact hf'.out ns hn
  walk_at "nx"
  refine seq_cut fun R1 hR1 => ?_
  walk_at "rd"
  refine ⟨⟨tk,ors,prs,row⟩,zs,D,rfl,hW,d8,hl,fun p hp => ?_⟩
  have gp : up3 H3 p (.dct (byW (D.map (ld tk)) (D.map (ld2 (tk.zip zs))))) p = some (.dct (byW (D.map (ld tk)) (D.map (ld2 (tk.zip zs))))):=up3_same
  have hS:=Sub3.new (o:=.dct (byW (D.map (ld tk)) (D.map (ld2 (tk.zip zs))))) hp
  try dsimp only
  generalize up3 H3 p (.dct (byW (D.map (ld tk)) (D.map (ld2 (tk.zip zs))))) = H1 at gp hS
  walk_at "nx"
  have gp':=Box.mk gp
  clear gp
  walk_at "rd"
  refine spB_mk (m:=10) (by omega) (by decide) fun q hq => ?_
  have gq : up3 H1 q (.lst ((allF (a + b) a b).map sT)) q = some (.lst ((allF (a + b) a b).map sT)):=up3_same
  have gp2:=Box.mk (Sub3.new (o:=.lst ((allF (a + b) a b).map sT)) hq _ _ gp'.out)
  have hS2:=hS.trans (Sub3.new (o:=.lst ((allF (a + b) a b).map sT)) hq)
  generalize up3 H1 q (.lst ((allF (a + b) a b).map sT)) = H2 at gq gp2 hS2
  have hall : (allF (a + b) a b).length <= 1024:=Nat.le_trans (allF_len _ _ _) (Nat.pow_le_pow_right (by decide) (show a + b <= 10 by omega))
  walk_at "rd"
  walk_at "cp"
  refine cIter_pure sT (lgT (lagV tk zs beat D)) (allF (a + b) a b) [some (.int beat),some (.ref p)] (.inl gq) (by omega) (fun tn hn Q' hq' => ?_) (fun r hr => ?_)
  ·
   have htn : Tn tn:=(allF_trn _ a b rfl tn hn).tn (by omega) (by omega)
   clear gq hl hW hall
   walk_at "rd"
   refine ⟨beat,p,D.map (ld tk),D.map (ld2 (tk.zip zs)),tn,rfl,gp2.out,by rw [List.length_map]; exact d1,by rw [List.length_map]; exact d8,by rw [List.length_map,List.length_map],htn,fun M hM => ?_⟩
   rw [range_two (ld tk) (ld2 (tk.zip zs)) (fun x y => S2 beat x y tn) D] at hM
   rw [max_is (tk:=tk) (zs:=zs) hM]
   exact ⟨by decide,hq'⟩
  ·
   exact mn_lg _ _ allF_ne _ _ (Fin3.of (hS2.trans (Sub3.new hr)) k'.out)
end
end M
namespace M
open PySem PySem.Spec PyProof.Rows L2 L3
local macro_rules | `(tactic| walk_at "cp") => `(tactic| try dsimp only [cap3,List.replicate,List.map_cons,List.map_nil,List.cons_append,List.nil_append,List.getElem?_cons_zero,List.getElem?_cons_succ,Option.getD_some])
local macro_rules | `(tactic| walk_at "nx") => `(tactic| (obtain ⟨e⟩:=‹Shut (_ = _)›; subst e; try dsimp only))
local macro_rules | `(tactic| walk_at "rd") => do
 let ls <- ((nm0 ++ " q_dgP q_dgPH q_dpP q_dpPH tDGetP3 sDPutP3 tDNew3 tDNewP3 tDisp1 q_d1q tDIn3 q_diq q_diH q_iSeqV q_iEnumT q_enTq q_any q_anH q_max2 q_min2").splitOn " ").toArray.mapM fun n => let i:=Lean.mkIdent n.toName; `(Lean.Parser.Tactic.simpLemma| $i:ident)
 `(tactic| ((try dsimp only [$[$ls:simpLemma],*]); try simp only [*,$[$ls:simpLemma],*]))
section
variable {P : Program} {w : World} {K : PySem.W.Frag} {mg : Str -> Option Value} {base : Heap}
abbrev N_sound : List Str:=["_law_works_here","_law_tasks_here","_law_orders_here","_law_pairs_here","_law_row","_law_far","_law_word","_law_one","_law_other","_law_name","_law_length","_law_kinds","_law_group"]
theorem sc_sound : FnScope N_sound ["_law_works_here"] (defScope (top 30)):=sc_mk
theorem ok_sound {f : Addr} {fd : FuncData} (g : G3 K mg "_law_sound" (top 30) ["_law_works_here"] f fd) (B : Bl mg) (F_at : Cal P w K mg base 1 "_law_at" (top 29) ["_law_kind","_law_tasks_here"] spAt) (F_reach : Cal P w K mg base 1 "_law_reach" (top 28) ["_law_works_here","_law_words"] spRch) : Cal P w K mg base 2 "_law_sound" (top 30) ["_law_works_here"] spSnd:=by
 refine ⟨f,fd,g,?_⟩
 refine fn3 g.fn sc_sound (fun ts H Q h => ?_) (fun cdv A outer s H E ts H3 Q hr h => ?_)
 ·
  obtain ⟨W,rfl,_⟩:=h; rfl
 ·
  have hu30:=Room.u30 hr
  have hu31:=Room.u31 hr
  have hu1:=Room.u1 hr
  obtain ⟨⟨tk,ors,prs,row⟩,rfl,hW,k⟩:=h
  refine ⟨_,(ss3_cons (s3_asg (v3 0) (g3_tup (n:=4) rfl (gs3_cons (g3_name (i:=1) sc_sound.nd) (gs3_cons (g3_name (i:=2) sc_sound.nd) (gs3_cons (g3_name (i:=3) sc_sound.nd) (gs3_cons (g3_name (i:=4) sc_sound.nd) gs3_nil))))))
    (ss3_cons (s3_set (i:=5) sc_sound.nd (e3_cl F_reach hr rfl (a3_cons (v3 0) (a3_cons (e3_tup (a3_cons c3_str a3_nil)) a3_nil))))
    (ss3_cons (s3_for PassesOwn.never rfl (i3_tup (e3_ix ix3 (v3 0) c3_int)) (g3_tup (n:=3) rfl (gs3_cons (g3_name (i:=6) sc_sound.nd) (gs3_cons (g3_name (i:=7) sc_sound.nd) (gs3_cons (g3_name (i:=8) sc_sound.nd) gs3_nil)))) (ss3_one (s3_if (PW3.pt (w3_and (t3_cmp (o3_eq hu30) (v3 6) c3_str) (w3_and (t3_val (e3_dgetP hu1 (v3 5) (a3_cons (v3 7) (a3_cons (v3 8) a3_nil)))) (w3_and1 (t3_val (e3_dgetP hu1 (v3 5) (a3_cons (v3 8) (a3_cons (v3 7) a3_nil)))))))) (ss3_one (s3_set (i:=3) sc_sound.nd (e3_callTy c3_tuple rfl B.tuple_ bt_tuple (a3_cons (e3_comp rfl (compSc (n0:=(defScope (top 30)).names) (N:=N_sound) (N':=["_law_pair"]) (nt:=1) (cap:=[]) rfl rfl (by decide +kernel)) (i3_tup (e3_ix ix3 (v3 0) c3_int)) (fun cl pins s H C0 fp => ⟨(g3_name (i:=0) (show List.Nodup [("_law_pair" : Str)] by decide +kernel)),(if3_one (t3_cmp (o3_eq hu30) (e3_ix ix3 (v3 0) c3_int) c3_str)),(v3 0)⟩)) a3_nil)))) ss3_nil)))
    (ss3_cons (s3_for PassesOwn.never rfl (i3_tup (e3_ix ix3 (v3 0) c3_int)) (g3_tup (n:=3) rfl (gs3_cons (g3_name (i:=9) sc_sound.nd) (gs3_cons (g3_name (i:=10) sc_sound.nd) (gs3_cons (g3_name (i:=11) sc_sound.nd) gs3_nil)))) (ss3_cons (s3_set (i:=12) sc_sound.nd (e3_comp rfl (compSc (n0:=(defScope (top 30)).names) (N:=N_sound) (N':=["_law_task","_law_far","_law_name"]) (nt:=1) (cap:=[5,9]) rfl rfl (by decide +kernel)) (i3_tup (e3_ix ix3 (v3 0) c3_int)) (fun cl pins s H C0 fp => ⟨(g3_name (i:=0) (show List.Nodup [("_law_task" : Str),("_law_far" : Str),("_law_name" : Str)] by decide +kernel)),(if3_one (PW3.pt (w3_and (t3_val (e3_dgetP hu1 (v3 1) (a3_cons (e3_ix ix3 (v3 0) c3_int) (a3_cons (v3 2) a3_nil)))) (w3_and1 (t3_val (e3_dgetP hu1 (v3 1) (a3_cons (v3 2) (a3_cons (e3_ix ix3 (v3 0) c3_int) a3_nil)))))))),(v3 0)⟩)))
     (ss3_cons (s3_expr (e3_bm PySem.F.plainAttrs_list PySem.F.slot_list_append PySem.F.type_list_append m3_append (v3 12) (a3_cons (e3_tup (a3_cons (v3 9) (a3_cons (v3 10) (a3_cons (v3 11) a3_nil)))) a3_nil)))
     (ss3_one (s3_if (t3_not (t3_val (e3_callB (c3_any rfl) rfl B.any_ bt_any (a3_cons (e3_comp rfl (compSc (n0:=(defScope (top 30)).names) (N:=N_sound) (N':=["_law_kind","_law_group"]) (nt:=1) (cap:=[12]) rfl rfl (by decide +kernel)) (i3_tup (v3 4)) (fun cl pins s H C0 fp => ⟨(g3_name (i:=0) (show List.Nodup [("_law_kind" : Str),("_law_group" : Str)] by decide +kernel)),if3_nil,(e3_cl F_at hr rfl (a3_cons (v3 0) (a3_cons (v3 1) a3_nil)))⟩)) a3_nil)))) (ss3_one (s3_set (i:=1) sc_sound.nd (e3_callTy c3_tuple rfl B.tuple_ bt_tuple (a3_cons (e3_comp rfl (compSc (n0:=(defScope (top 30)).names) (N:=N_sound) (N':=["_law_one","_law_long","_law_some"]) (nt:=3) (cap:=[]) rfl rfl (by decide +kernel)) (i3_tup (e3_ix ix3 (v3 0) c3_int)) (fun cl pins s H C0 fp => ⟨(g3_tup (n:=3) rfl (gs3_cons (g3_name (i:=0) (show List.Nodup [("_law_one" : Str),("_law_long" : Str),("_law_some" : Str)] by decide +kernel)) (gs3_cons (g3_name (i:=1) (show List.Nodup [("_law_one" : Str),("_law_long" : Str),("_law_some" : Str)] by decide +kernel)) (gs3_cons (g3_name (i:=2) (show List.Nodup [("_law_one" : Str),("_law_long" : Str),("_law_some" : Str)] by decide +kernel)) gs3_nil)))),if3_nil,(e3_tup (a3_cons (v3 0) (a3_cons (v3 1) (a3_cons (e3_tup a3_nil) a3_nil))))⟩)) a3_nil)))) ss3_nil)))))
    (ss3_one (s3_ret (e3_tup (a3_cons (v3 1) (a3_cons (v3 2) (a3_cons (v3 3) (a3_cons (v3 4) a3_nil))))))))))),?_⟩
  rw [show start3 N_sound [Wk.enc ⟨tk,ors,prs,row⟩] = [some (T.tup [T.tup (tk.map tkT),T.tup (ors.map orT),T.tup (prs.map prT),T.tup (row.map T.str)]),none,none,none,none,none,none,none,none,none,none,none,none] from rfl]
  have hsz : sizeLine = 16777216:=rfl
  have t8 : tk.length <= 8:=hW.t8
  have p12 : prs.length <= 12:=hW.ps
  have r8 : row.length <= 8:=hW.r8
  refine seq_cut fun R0 hR0 => ?_
  walk_at "rd"
  refine ⟨by first | trivial | decide,?_⟩
  walk_at "nx"
  refine seq_cut fun R1 hR1 => ?_
  walk_at "rd"
  refine ⟨by omega,⟨tk,ors,prs,row⟩,["with"],rfl,hW,fun pf kvs hpf hF => ?_⟩
  walk_at "nx"
  replace hF : Far (tk.map (·.1)) kvs (farW ["with"] ⟨tk,ors,prs,row⟩):=hF
  generalize farW ["with"] ⟨tk,ors,prs,row⟩ = f at hF
  have hS0 : Sub3 H3 (up3 H3 pf (.dcp kvs)):=Sub3.new hpf
  have hfv : up3 H3 pf (.dcp kvs) pf = some (.dcp kvs):=up3_same
  generalize up3 H3 pf (.dcp kvs) = HF at hS0 hfv
  have hpp : ∀ o ∈ prs,o.2.1 ∈ tk.map (·.1) /\ o.2.2 ∈ tk.map (·.1):=fun o ho => (hW.pp o ho).2.2
  refine seq_cut fun R2 hR2 => ?_
  walk_at "rd"
  refine iter_pre prT prs (fun A σ H => ∃ (v6 v7 v8 v9 v10 v11 v12 : Option T) (tk1 : List (Str × Int × List Str)) (prs1 : List (Str × Str × Str)),σ = [some (T.tup [T.tup (tk.map tkT),T.tup (ors.map orT),T.tup (prs.map prT),T.tup (row.map T.str)]),some (.tup (tk1.map tkT)),some (.tup (ors.map orT)),some (.tup (prs1.map prT)),some (.tup (row.map T.str)),some (.ref pf),v6,v7,v8,v9,v10,v11,v12] /\ Sub3 HF H /\ tk1 = tk /\ prs1.Sublist prs) ⟨none,none,none,none,none,none,none,tk,prs,rfl,Sub3.refl,rfl,List.Sublist.refl _⟩ ?_ ?_
  rotate_left
  ·
   rintro A ⟨wd,a,b⟩ B σ H N e ⟨v6,v7,v8,v9,v10,v11,v12,tk1,prs1,rfl,hS,rfl,hsub⟩ hN
   refine ⟨trivial,?_⟩
   obtain ⟨ha,hb⟩:=hpp (wd,a,b) (by rw [e]; simp)
   dsimp only at ha hb
   have g1:=hF.at' a ha b hb
   have g2:=hF.at' b hb a ha
   have gf:=hS _ _ hfv
   have fN : Box (N [some (T.tup [T.tup (tk1.map tkT),T.tup (ors.map orT),T.tup (prs.map prT),T.tup (row.map T.str)]),some (.tup (tk1.map tkT)),some (.tup (ors.map orT)),some (.tup (prs1.map prT)),some (.tup (row.map T.str)),some (.ref pf),some (.str wd),some (.str a),some (.str b),v9,v10,v11,v12] H):=⟨hN _ _ ⟨_,_,_,v9,v10,v11,v12,tk1,prs1,rfl,hS,rfl,hsub⟩⟩
   have fY : Box (∀ p,H p = none -> N [some (T.tup [T.tup (tk1.map tkT),T.tup (ors.map orT),T.tup (prs.map prT),T.tup (row.map T.str)]),some (.tup (tk1.map tkT)),some (.tup (ors.map orT)),some (.tup ((prs.filter fun p => decide (p.1 = ("with" : Str))).map prT)),some (.tup (row.map T.str)),some (.ref pf),some (.str wd),some (.str a),some (.str b),v9,v10,v11,v12] (up3 H p (.lst ((prs.filter fun p => decide (p.1 = ("with" : Str))).map prT)))):=⟨fun p hp => hN _ _ ⟨_,_,_,v9,v10,v11,v12,tk1,_,rfl,hS.trans (Sub3.new hp),rfl,List.filter_sublist⟩⟩
   clear hN e ha hb hpp hR2 hF
   unfold kk at g1 g2
   simp only [prT]
   walk_at "rd"
   refine ⟨trivial,?_⟩
   by_cases hw : wd = "apart"
   ·
    simp only [hw,decide_true,if_true] at fN fY ⊢
    refine ⟨by omega,?_⟩
    cases f a b
    ·
     simp only [Bool.false_eq_true,if_false]
     exact fN.out
    ·
     simp only [if_true]
     refine ⟨by omega,?_⟩
     cases f b a
     ·
      simp only [Bool.false_eq_true,if_false]
      exact fN.out
     ·
      simp only [if_true]
      walk_at "cp"
      refine cIter_filt prT prT (fun p => decide (p.1 = ("with" : Str))) prs [] trivial (by omega) (fun p hp Q' hq => ?_) (fun p hp _ Q' hq => ?_) (fun q hq => ?_)
      ·
       obtain ⟨p1,p2,p3⟩:=p
       simp only [prT]
       dsimp only at hq
       walk_at "rd"
       try exact hq
      ·
       walk_at "rd"
       try exact hq
      ·
       exact fY.out q hq
   ·
    simp only [hw,decide_false,Bool.false_eq_true,if_false]
    exact fN.out
  ·
   rintro σ H ⟨v6,v7,v8,v9,v10,v11,v12,tk1,prs1,rfl,hS,rfl,hsub⟩
   refine ⟨trivial,?_⟩
   walk_at "nx"
   refine seq_cut fun R3 hR3 => ?_
   walk_at "rd"
   refine iter_pre tkT tk1 (fun A σ H => ∃ (v6 v7 v8 v9 v10 v11 v12 : Option T) (tk2 : List (Str × Int × List Str)),σ = [some (T.tup [T.tup (tk1.map tkT),T.tup (ors.map orT),T.tup (prs.map prT),T.tup (row.map T.str)]),some (.tup (tk2.map tkT)),some (.tup (ors.map orT)),some (.tup (prs1.map prT)),some (.tup (row.map T.str)),some (.ref pf),v6,v7,v8,v9,v10,v11,v12] /\ Sub3 HF H /\ (tk2 = tk1 \/ tk2 = tk1.map bare)) ⟨v6,v7,v8,v9,v10,v11,v12,tk1,rfl,hS,.inl rfl⟩ ?_ ?_
   ·
    rintro σ H ⟨v6,v7,v8,v9,v10,v11,v12,tk2,rfl,hS,ht2⟩
    refine ⟨trivial,?_⟩
    walk_at "nx"
    have hW2 : WkOk ⟨tk2,ors,prs1,row⟩:=by
     rcases ht2 with rfl | rfl
     ·
      exact hW.sub hsub
     ·
      exact (hW.sub hsub).bare
    have hl2 : tk2.length = tk1.length:=by
     rcases ht2 with rfl | rfl
     ·
      rfl
     ·
      exact List.length_map _
    have hk:=k ⟨tk2,ors,prs1,row⟩ hW2 hl2
    clear k hW hsub ht2
    walk_at "rd"
    refine ⟨by omega,Fin3.of (hS0.trans hS) ?_⟩
    exact hk
   ·
    rintro A ⟨nm,len,ks⟩ B σ H N e ⟨v6,v7,v8,v9,v10,v11,v12,tk2,rfl,hS,ht2⟩ hN
    refine ⟨trivial,?_⟩
    have hnm : nm ∈ tk1.map (·.1):=by rw [e]; simp
    have gf:=hS _ _ hfv
    clear e hR3
    simp only [tkT,q_gTup,q_gCons,q_gNil,gName3,List.set_cons_zero,List.set_cons_succ]
    refine ⟨rfl,?_⟩
    refine seq_cut fun R4 hR4 => ?_
    walk_at "rd"
    walk_at "cp"
    refine cIter_filt tkT tkT (fun t => f t.1 nm && f nm t.1) tk1 [some (.ref pf),some (.str nm)] trivial (by omega) (fun t ht Q' hq => ?_) (fun t ht _ Q' hq => ?_) (fun pg hpg => ?_)
    ·
     obtain ⟨n1,l1,k1⟩:=t
     have hn1 : n1 ∈ tk1.map (·.1):=List.mem_map.mpr ⟨_,ht,rfl⟩
     have g1:=hF.at' n1 hn1 nm hnm
     have g2:=hF.at' nm hnm n1 hn1
     unfold kk at g1 g2
     simp only [tkT]
     dsimp only at hq
     clear hN
     cases e1 : f n1 nm <;> cases e2 : f nm n1 <;> simp only [e1,e2,Bool.and_true,Bool.and_false,Bool.true_and,Bool.false_and] at hq g1 g2 <;> walk_at "rd" <;> (try simp only [true_and]) <;> first | done | exact hq | exact ⟨by omega,hq⟩ | exact ⟨by omega,by omega,hq⟩ | exact trivial | exact ⟨by omega,trivial⟩ | exact ⟨by omega,by omega,trivial⟩
    ·
     walk_at "rd"
     try exact hq
    ·
     obtain ⟨hR4⟩:=hR4
     subst hR4
     have hgl : ((tk1.filter fun t => f t.1 nm && f nm t.1)).length <= 8:=Nat.le_trans (List.length_filter_le _ _) t8
     generalize (tk1.filter fun t => f t.1 nm && f nm t.1) = gr at hgl
     walk_at "rd"
     refine ⟨⟨trivial,trivial⟩,by omega,by omega,?_⟩
     walk_at "cp"
     have eg : gr.map tkT ++ [T.tup [T.str nm,T.int len,sT ks]] = (gr ++ [(nm,len,ks)]).map tkT:=by rw [List.map_append]; rfl
     rw [eg]
     have hS2 : Sub3 HF (up3 H pg (.lst ((gr ++ [(nm,len,ks)]).map tkT))):=hS.trans (Sub3.new hpg)
     have gg : up3 H pg (.lst ((gr ++ [(nm,len,ks)]).map tkT)) pg = some (.lst ((gr ++ [(nm,len,ks)]).map tkT)):=up3_same
     generalize up3 H pg (.lst ((gr ++ [(nm,len,ks)]).map tkT)) = H6 at hS2 gg
     refine cIter_pre T.str row (fun A ys σ H => H = H6 /\ ys.length = A.length /\ (∃ bs : List Bool,ys = bs.map T.bl) /\ ∃ v0 : Option T,σ = [v0,some (.ref pg)]) ⟨rfl,rfl,⟨[],rfl⟩,none,rfl⟩ ?_ ?_
     ·
      rintro ys σ H' ⟨rfl,hy,⟨bs,rfl⟩,v0,rfl⟩
      refine ⟨trivial,by omega,fun pa hpa => ?_⟩
      rw [bools3_map,q_oq]
      have fN : Box (N [some (T.tup [T.tup (tk1.map tkT),T.tup (ors.map orT),T.tup (prs.map prT),T.tup (row.map T.str)]),some (.tup (tk2.map tkT)),some (.tup (ors.map orT)),some (.tup (prs1.map prT)),some (.tup (row.map T.str)),some (.ref pf),v6,v7,v8,some (.str nm),some (.int len),some (sT ks),some (.ref pg)] (up3 H' pa (.lst (bs.map T.bl)))):=⟨hN _ _ ⟨v6,v7,v8,_,_,_,_,tk2,rfl,hS2.trans (Sub3.new hpa),ht2⟩⟩
      have fY : Box (∀ q,up3 H' pa (.lst (bs.map T.bl)) q = none -> N [some (T.tup [T.tup (tk1.map tkT),T.tup (ors.map orT),T.tup (prs.map prT),T.tup (row.map T.str)]),some (.tup ((tk1.map bare).map tkT)),some (.tup (ors.map orT)),some (.tup (prs1.map prT)),some (.tup (row.map T.str)),some (.ref pf),v6,v7,v8,some (.str nm),some (.int len),some (sT ks),some (.ref pg)] (up3 (up3 H' pa (.lst (bs.map T.bl))) q (.lst ((tk1.map bare).map tkT)))):=⟨fun q hq => hN _ _ ⟨v6,v7,v8,_,_,_,_,tk1.map bare,rfl,hS2.trans ((Sub3.new hpa).trans (Sub3.new hq)),.inr rfl⟩⟩
      cases bs.any id
      ·
       simp only [Bool.not_false,if_true]
       clear hN
       walk_at "cp"
       refine cIter_pre tkT tk1 (fun A ys σ H => H = up3 H' pa (.lst (bs.map T.bl)) /\ ys = (A.map bare).map tkT /\ ∃ v0 v1 v2 : Option T,σ = [v0,v1,v2]) ⟨rfl,rfl,none,none,none,rfl⟩ ?_ ?_
       ·
        rintro ys σ H ⟨rfl,rfl,v0,v1,v2,rfl⟩
        refine ⟨trivial,by rw [List.length_map,List.length_map]; omega,fun q hq => ?_⟩
        exact fY.out q hq
       ·
        rintro A ⟨n1,l1,k1⟩ B ys σ H N2 e ⟨rfl,rfl,v0,v1,v2,rfl⟩ hN2
        have hA : A.length <= 8:=by
         have:=congrArg List.length e
         simp only [List.length_append,List.length_cons] at this
         omega
        have hl3 : ((A.map bare).map tkT).length <= 8:=by rw [List.length_map,List.length_map]; exact hA
        have fin:=Box.mk (hN2 ((A.map bare).map tkT ++ [tkT (bare (n1,l1,k1))]) [some (.str n1),some (.int l1),some (sT k1)] _ ⟨rfl,by simp,_,_,_,rfl⟩)
        refine ⟨trivial,?_⟩
        generalize (A.map bare).map tkT = cur at fin hl3
        clear hN2 e fY fN
        simp only [tkT,bare,sT,List.map_nil] at fin ⊢
        walk_at "rd"
        exact ⟨trivial,by omega,by omega,by omega,fin.out⟩
      ·
       simp only [Bool.not_true,Bool.false_eq_true,if_false]
       exact fN.out
     ·
      rintro A kd B ys σ H' N2 e ⟨rfl,hy,⟨bs,rfl⟩,v0,rfl⟩ hN2
      have hA : A.length <= 8:=by
       have:=congrArg List.length e
       simp only [List.length_append,List.length_cons] at this
       omega
      refine ⟨trivial,?_⟩
      have fin : Box (∀ b : Bool,N2 (bs.map T.bl ++ [T.bl b]) [some (.str kd),some (.ref pg)] H'):=⟨fun b => hN2 _ _ _ ⟨rfl,by simp only [List.length_append,List.length_singleton]; omega,⟨bs ++ [b],by simp⟩,_,rfl⟩⟩
      clear hN2 e hN
      walk_at "rd"
      refine ⟨kd,pg,gr ++ [(nm,len,ks)],rfl,gg,by rw [List.length_append,List.length_singleton]; omega,fun b => ?_⟩
      exact ⟨by omega,fin.out b⟩
end
end M
namespace M
open PySem PySem.Spec PyProof.Rows L2 L3
local macro_rules | `(tactic| walk_at "cp") => `(tactic| try dsimp only [cap3,List.replicate,List.map_cons,List.map_nil,List.cons_append,List.nil_append,List.getElem?_cons_zero,List.getElem?_cons_succ,Option.getD_some])
local macro_rules | `(tactic| walk_at "nx") => `(tactic| (obtain ⟨e⟩:=‹Shut (_ = _)›; subst e; try dsimp only))
local macro_rules | `(tactic| walk_at "rd") => do
 let ls <- ((nm0 ++ " q_dgP q_dgPH q_dpP q_dpPH tDGetP3 sDPutP3 tDNew3 tDNewP3 tDisp1 q_d1q tDIn3 q_diq q_diH q_iSeqV q_iEnumT q_enTq q_any q_anH q_max2 q_min2 q_rep q_rpH q_ins q_insH q_max1 q_mxH q_cnt q_repT q_tyT q_slT' q_tSlT q_revT q_rvT q_min1 q_dgPI q_dpPI").splitOn " ").toArray.mapM fun n => let i:=Lean.mkIdent n.toName; `(Lean.Parser.Tactic.simpLemma| $i:ident)
 `(tactic| ((try dsimp only [$[$ls:simpLemma],*]); try simp only [*,$[$ls:simpLemma],*]))
section
variable {P : Program} {w : World} {K : PySem.W.Frag} {mg : Str -> Option Value} {base : Heap}
structure Pc (c : Addr) (H0 H : Hp3) (fs : List (Addr × O3)) (as : List Addr) (xs : List (Int × Int)) : Prop where
 w : Wt c H0 H fs
 p : Pr H as xs
 n : ∀ a ∈ as,a ≠ c
theorem Pc.drw {c : Addr} {H0 H H' : Hp3} {fs : List (Addr × O3)} {as : List Addr} {xs : List (Int × Int)} (x : Pc c H0 H fs as xs) (d : Drw c H H') : Pc c H0 H' fs as xs:=⟨x.w.drw d,x.p.to fun a ha o e => by rw [d.off _ (x.n a ha)]; exact e,x.n⟩
theorem Pc.new {c p : Addr} {H0 H : Hp3} {o : O3} {fs : List (Addr × O3)} {as : List Addr} {xs : List (Int × Int)} (x : Pc c H0 H fs as xs) (hp : H p = none) : Pc c H0 (up3 H p o) ((p,o) :: fs) as xs:=⟨x.w.new hp,x.p.to fun a ha u e => Sub3.new hp a u e,x.n⟩
theorem Pc.grow {c p : Addr} {H0 H : Hp3} {fs : List (Addr × O3)} {as : List Addr} {xs : List (Int × Int)} {u v : Int} (x : Pc c H0 H fs as xs) (hp : H p = none) : Pc c H0 (up3 H p (.lst [.int u,.int v])) fs (as ++ [p]) (xs ++ [(u,v)]):=by
 refine ⟨(x.w.new hp).tl,⟨by simp [x.p.l],fun i a q h1 h2 => ?_⟩,fun a ha => ?_⟩
 ·
  by_cases hi : i < as.length
  ·
   rw [List.getElem?_append_left hi] at h1
   rw [List.getElem?_append_left (by rw [<- x.p.l]; exact hi)] at h2
   exact Sub3.new hp _ _ (x.p.g i a q h1 h2)
  ·
   have e1:=(List.getElem?_eq_some_iff.mp h1).1
   rw [List.length_append,List.length_singleton] at e1
   have : i = as.length:=by omega
   subst this
   rw [List.getElem?_append_right (Nat.le_refl _),Nat.sub_self] at h1
   rw [x.p.l,List.getElem?_append_right (Nat.le_refl _),Nat.sub_self] at h2
   cases h1
   cases h2
   exact up3_same
 ·
  rcases List.mem_append.mp ha with h | h
  ·
   exact x.n a h
  ·
   rw [List.mem_singleton.mp h]; exact x.w.cl.ne hp
theorem trn_len : ∀ tn : List Str,(∀ t ∈ tn,t = "one" \/ t = "other") -> (tn.length : Int) = c1 tn + c2 tn
 | [],_ => rfl
 | t :: tn,h => by
  have ih:=trn_len tn fun t ht => h t (List.mem_cons_of_mem _ ht)
  rw [List.length_cons]
  rcases h t List.mem_cons_self with rfl | rfl
  ·
   rw [c1_one,c2_one]; omega
  ·
   rw [c1_other,c2_other]; omega
theorem Tn.trn {tn : List Str} {a b : Nat} (h : Tn tn) (h1 : c1 tn = a) (h2 : c2 tn = b) : Trn tn a b:=⟨h.w,by have:=trn_len tn h.w; omega,h1,h2⟩
def spLaw : Sp3:=fun ts H Q => ∃ (a : Addr) (ns : List Int),ts = [.ref a] /\ H a = some (.rol (ns.map T.int)) /\ ns.length <= 63 /\ ∀ H',Q (.bl true) H'
abbrev N_law : List Str:=["_law_script","_law_cells","_law_works_here","_law_dealing_here","_law_others_here","_law_most","_law_mix","_law_beat_here","_law_pairs_here","_law_found","_law_rivals"]
theorem sc_law : FnScope N_law ["_law_script"] (defScope (top 38)):=sc_mk
theorem ok_law {f : Addr} {fd : FuncData} (g : G3 K mg "law" (top 38) ["_law_script"] f fd) (B : Bl mg) (F_deck : Cal P w K mg base 2 "_law_deck" (top 22) ["_law_script"] spDk) (F_sound : Cal P w K mg base 2 "_law_sound" (top 30) ["_law_works_here"] spSnd) (F_works : Cal P w K mg base 4 "_law_works" (top 27) ["_law_cells","_law_most","_law_withs"] spWs) (F_next : Cal P w K mg base 2 "_law_next" (top 21) ["_law_cells"] spNx) (F_dealing : Cal P w K mg base 3 "_law_dealing" (top 31) ["_law_works_here","_law_cells"] spDl) (F_others : Cal P w K mg base 3 "_law_others" (top 32) ["_law_works_here","_law_cells"] spOth) (F_beat : Cal P w K mg base 2 "_law_beat" (top 34) ["_law_works_here","_law_others_here","_law_dealing_here","_law_mix","_law_cell"] spBt) (F_loads : Cal P w K mg base 1 "_law_loads" (top 33) ["_law_works_here","_law_others_here","_law_tasks_here"] spLl) (F_least_lag : Cal P w K mg base 12 "least_lag" (top 17) ["works","others","beat","dealing","mix"] spLst) (F_lag : Cal P w K mg base 1 "_law_lag" (top 35) ["_law_pairs_here","_law_beat_here","_law_turns"] spLag) (F_all : Cal P w K mg base 1 "_law_all" (top 36) ["_law_first","_law_second"] spAl) (F_drawn : Cal P w K mg base 3 "_law_drawn" (top 37) ["_law_cells","_law_first","_law_second"] spTn) : FnOk3 P w K mg base 13 f fd ["_law_script"] spLaw:=by
 refine fn3 g.fn sc_law (fun ts H Q h => ?_) (fun cdv A outer s H E ts H3 Q hr h => ?_)
 ·
  obtain ⟨a,ns,rfl,_⟩:=h; rfl
 ·
  have hu30:=Room.u30 hr
  have hu31:=Room.u31 hr
  have hu1:=Room.u1 hr
  obtain ⟨a,ns,rfl,ha,hl,k⟩:=h
  refine ⟨_,(ss3_cons (s3_set (i:=1) sc_law.nd (e3_cl F_deck hr rfl (a3_cons (v3 0) a3_nil)))
    (ss3_cons (s3_set (i:=2) sc_law.nd (e3_cl F_sound hr rfl (a3_cons (e3_cl F_works hr rfl (a3_cons (v3 1) (a3_cons c3_int (a3_cons c3_int a3_nil)))) a3_nil)))
    (ss3_cons (s3_set (i:=3) sc_law.nd (e3_cl F_dealing hr rfl (a3_cons (v3 2) (a3_cons (v3 1) a3_nil))))
    (ss3_cons (s3_set (i:=4) sc_law.nd (e3_cl F_others hr rfl (a3_cons (v3 2) (a3_cons (v3 1) a3_nil))))
    (ss3_cons (s3_set (i:=5) sc_law.nd (e3_ix ix3 (e3_lst (a3_cons c3_int (a3_cons c3_int a3_nil))) (e3_op o3_mod (e3_cl F_next hr rfl (a3_cons (v3 1) a3_nil)) c3_int)))
    (ss3_cons (s3_set (i:=6) sc_law.nd (e3_tup (a3_cons (e3_op o3_add c3_int (e3_op o3_mod (e3_cl F_next hr rfl (a3_cons (v3 1) a3_nil)) (v3 5))) (a3_cons (e3_op o3_add c3_int (e3_op o3_mod (e3_cl F_next hr rfl (a3_cons (v3 1) a3_nil)) (v3 5))) a3_nil))))
    (ss3_cons (s3_set (i:=7) sc_law.nd (e3_cl F_beat hr rfl (a3_cons (v3 2) (a3_cons (v3 4) (a3_cons (v3 3) (a3_cons (v3 6) (a3_cons (e3_cl F_next hr rfl (a3_cons (v3 1) a3_nil)) a3_nil)))))))
    (ss3_cons (s3_set (i:=8) sc_law.nd (e3_comp rfl (compSc (n0:=(defScope (top 38)).names) (N:=N_law) (N':=["_law_tasks_here","_law_works_here","_law_others_here"]) (nt:=1) (cap:=[2,4]) rfl rfl (by decide +kernel)) (i3_tup (v3 3)) (fun cl pins s H C0 fp => ⟨(g3_name (i:=0) (show List.Nodup [("_law_tasks_here" : Str),("_law_works_here" : Str),("_law_others_here" : Str)] by decide +kernel)),if3_nil,(e3_cl F_loads hr rfl (a3_cons (v3 1) (a3_cons (v3 2) (a3_cons (v3 0) a3_nil))))⟩)))
    (ss3_cons (s3_set (i:=9) sc_law.nd (e3_cl F_least_lag hr rfl (a3_cons (v3 2) (a3_cons (v3 4) (a3_cons (v3 7) (a3_cons (v3 3) (a3_cons (v3 6) a3_nil)))))))
    (ss3_cons (s3_if (PW3.pt (w3_or (t3_not (t3_val (e3_callB c3_isi rfl B.isinstance_ bt_isinstance (a3_cons (v3 9) (a3_cons (b3_ty rfl B.tuple_ bt_tuple) a3_nil))))) (w3_or (t3_cmp (o3_ne hu30) (e3_callB c3_len rfl B.len_ bt_len (a3_cons (v3 9) a3_nil)) c3_int) (w3_or1 (t3_not (t3_val (e3_callB c3_isi rfl B.isinstance_ bt_isinstance (a3_cons (e3_ix ix3 (v3 9) c3_int) (a3_cons (b3_ty rfl B.tuple_ bt_tuple) a3_nil))))))))) (ss3_one (s3_ret c3_bl)) ss3_nil)
    (ss3_cons (s3_if (PW3.pt (w3_or (t3_val (e3_callB c3_isi rfl B.isinstance_ bt_isinstance (a3_cons (e3_ix ix3 (v3 9) c3_int) (a3_cons (b3_ty rfl B.bool_ bt_bool) a3_nil)))) (w3_or1 (t3_cmp (o3_ne hu30) (e3_tup (a3_cons (e3_bm PySem.F.plainAttrs_tuple PySem.F.slot_tuple_count PySem.F.type_tuple_count m3_count (e3_ix ix3 (v3 9) c3_int) (a3_cons c3_str a3_nil)) (a3_cons (e3_bm PySem.F.plainAttrs_tuple PySem.F.slot_tuple_count PySem.F.type_tuple_count m3_count (e3_ix ix3 (v3 9) c3_int) (a3_cons c3_str a3_nil)) a3_nil))) (v3 6))))) (ss3_one (s3_ret c3_bl)) ss3_nil)
    (ss3_cons (s3_if (PW3.pt (w3_or (t3_cmp (o3_ne hu30) (e3_callB c3_len rfl B.len_ bt_len (a3_cons (e3_ix ix3 (v3 9) c3_int) a3_nil)) (e3_op o3_add (e3_ix ix3 (v3 6) c3_int) (e3_ix ix3 (v3 6) c3_int))) (w3_or1 (t3_cmp (o3_ne hu30) (e3_ix ix3 (v3 9) c3_int) (e3_cl F_lag hr rfl (a3_cons (v3 8) (a3_cons (v3 7) (a3_cons (e3_ix ix3 (v3 9) c3_int) a3_nil)))))))) (ss3_one (s3_ret c3_bl)) ss3_nil)
    (ss3_cons (s3_if (t3_cmp (o3_eq hu30) (v3 5) c3_int) (ss3_one (s3_set (i:=10) sc_law.nd (e3_cl F_all hr rfl (a3_cons (e3_ix ix3 (v3 6) c3_int) (a3_cons (e3_ix ix3 (v3 6) c3_int) a3_nil))))) (ss3_one (s3_setC (i:=10) rfl sc_law.nd (compSc (n0:=(defScope (top 38)).names) (N:=N_law) (N':=["_law_k","_law_cells","_law_mix"]) (nt:=1) (cap:=[1,6]) rfl rfl (by decide +kernel)) (i3_range1 rfl B.range_ (a3_cons c3_int a3_nil)) (fun cl pins s H C0 fp => ⟨(g3_name (i:=0) (show List.Nodup [("_law_k" : Str),("_law_cells" : Str),("_law_mix" : Str)] by decide +kernel)),if3_nil,(e3_cl F_drawn hr rfl (a3_cons (v3 1) (a3_cons (e3_ix ix3 (v3 2) c3_int) (a3_cons (e3_ix ix3 (v3 2) c3_int) a3_nil))))⟩))))
    (ss3_cons (s3_if (t3_val (e3_callB (c3_any rfl) rfl B.any_ bt_any (a3_cons (e3_comp rfl (compSc (n0:=(defScope (top 38)).names) (N:=N_law) (N':=["_law_turns","_law_pairs_here","_law_beat_here","_law_found"]) (nt:=1) (cap:=[8,7,9]) rfl rfl (by decide +kernel)) (i3_list (v3 10)) (fun cl pins s H C0 fp => ⟨(g3_name (i:=0) (show List.Nodup [("_law_turns" : Str),("_law_pairs_here" : Str),("_law_beat_here" : Str),("_law_found" : Str)] by decide +kernel)),if3_nil,(e3_cmp o3_lt (e3_cl F_lag hr rfl (a3_cons (v3 1) (a3_cons (v3 2) (a3_cons (v3 0) a3_nil)))) (e3_ix ix3 (v3 3) c3_int))⟩)) a3_nil))) (ss3_one (s3_ret c3_bl)) ss3_nil)
    (ss3_one (s3_ret (e3_or (e3_cmp o3_gt (e3_op o3_add (e3_ix ix3 (v3 6) c3_int) (e3_ix ix3 (v3 6) c3_int)) c3_int) (e3_one (e3_cmp (o3_eq hu30) (e3_cl F_least_lag hr rfl (a3_cons (v3 2) (a3_cons (v3 4) (a3_cons (v3 7) (a3_cons (v3 3) (a3_cons (v3 6) a3_nil)))))) (v3 9)))))))))))))))))))),?_⟩
  rw [show start3 N_law [T.ref a] = [some (T.ref a),none,none,none,none,none,none,none,none,none,none] from rfl]
  have hsz : sizeLine = 16777216:=rfl
  have k':=Box.mk k
  clear k
  refine seq_cut fun R0 hR0 => ?_
  walk_at "rd"
  refine ⟨a,ns,rfl,ha,hl,fun c H1 hS hc0 hC => ?_⟩
  walk_at "nx"
  refine seq_cut fun R1 hR1 => ?_
  walk_at "rd"
  refine ⟨c,8,3,rfl,by decide,by decide,hC,fun W0 H2 hW0 _ hD => ?_⟩
  try dsimp only
  refine ⟨W0,rfl,hW0,fun W hW _ => ?_⟩
  walk_at "nx"
  have w0 : Wt c H2 H2 []:=⟨hD.cl,Kep.refl,(fun _ h => nomatch h)⟩
  clear hC hD hW0 hS
  obtain ⟨tk,ors,prs,row⟩:=W
  have t8 : tk.length <= 8:=hW.t8
  rw [show Wk.enc ⟨tk,ors,prs,row⟩ = T.tup [T.tup (tk.map tkT),T.tup (ors.map orT),T.tup (prs.map prT),T.tup (row.map T.str)] from rfl]
  try dsimp only
  refine seq_cut fun R3 hR3 => ?_
  walk_at "rd"
  refine ⟨⟨tk,ors,prs,row⟩,c,rfl,hW,w0.cl,fun D H4 d1 d8 hD4 => ?_⟩
  have w2:=w0.drw hD4
  clear w0 hD4
  walk_at "nx"
  refine seq_cut fun R4 hR4 => ?_
  walk_at "rd"
  refine ⟨⟨tk,ors,prs,row⟩,c,rfl,hW,w2.cl,fun zs H5 hz0 hD5 => ?_⟩
  have w3:=w2.drw hD5
  replace hz0 : zs.length = tk.length:=hz0
  have hzl':=Box.mk hz0.symm
  clear w2 hD5 hz0
  walk_at "nx"
  refine seq_cut fun R5 hR5 => ?_
  walk_at "rd"
  refine ⟨by decide,fun p3 hp3 => ?_⟩
  have w4:=w3.new (o:=.lst [T.int 3,T.int 5]) hp3
  generalize up3 H5 p3 (.lst [T.int 3,T.int 5]) = H6 at w4
  clear w3 hp3
  refine ⟨c,rfl,w4.cl,fun n0 H7 hD7 => ?_⟩
  have w5:=w4.drw hD7
  have g3:=w5.hd
  clear w4 hD7
  walk_at "rd"
  obtain ⟨most,hmo,hma⟩ : ∃ most : Int,(most = 3 \/ most = 5) /\ atI [T.int 3,T.int 5] (n0 % 2) = some (T.int most):=by
   rcases (show n0 % 2 = 0 \/ n0 % 2 = 1 by omega) with h | h
   ·
    exact ⟨3,.inl rfl,by rw [h]; rfl⟩
   ·
    exact ⟨5,.inr rfl,by rw [h]; rfl⟩
  refine ⟨by decide,?_⟩
  rw [hma,q_oq]
  have hmo':=Box.mk hmo
  have m0 : 0 < most:=by rcases hmo with h | h <;> omega
  have m5 : most <= 5:=by rcases hmo with h | h <;> omega
  have w6:=w5.tl
  clear hma g3 hmo w5
  walk_at "nx"
  refine seq_cut fun R6 hR6 => ?_
  walk_at "rd"
  refine ⟨c,rfl,w6.cl,fun n1 H8 hD8 => ?_⟩
  have w7:=w6.drw hD8
  clear w6 hD8
  walk_at "rd"
  refine ⟨trivial,c,rfl,w7.cl,fun n2 H9 hD9 => ?_⟩
  have w8:=w7.drw hD9
  clear w7 hD9
  walk_at "rd"
  have a0:=Int.emod_nonneg n1 (show most ≠ 0 by omega)
  have a5:=Int.emod_lt_of_pos n1 m0
  have b0:=Int.emod_nonneg n2 (show most ≠ 0 by omega)
  have b5:=Int.emod_lt_of_pos n2 m0
  refine ⟨trivial,by decide,?_⟩
  obtain ⟨ia,eia⟩ : ∃ ia : Nat,1 + n1 % most = (ia : Int):=⟨(1 + n1 % most).toNat,by omega⟩
  obtain ⟨ib,eib⟩ : ∃ ib : Nat,1 + n2 % most = (ib : Int):=⟨(1 + n2 % most).toNat,by omega⟩
  rw [eia,eib]
  have a1 : 1 <= ia:=by omega
  have a6 : (ia : Int) <= most:=by omega
  have b1 : 1 <= ib:=by omega
  have b6 : (ib : Int) <= most:=by omega
  clear a0 a5 b0 b5 eia eib
  walk_at "nx"
  refine seq_cut fun R7 hR7 => ?_
  walk_at "rd"
  refine ⟨c,rfl,w8.cl,fun n3 H10 hD10 => ?_⟩
  have w9:=w8.drw hD10
  clear w8 hD10
  try dsimp only
  refine ⟨⟨tk,ors,prs,row⟩,zs,D,ia,ib,n3,rfl,t8,hzl'.out,d8,by omega,by omega,by omega,by omega,fun beat hf => ?_⟩
  replace hf : Fits tk zs beat D ia ib:=hf
  have hf':=Box.mk hf
  clear hf
  walk_at "nx"
  refine seq_cut fun R8 hR8 => ?_
  walk_at "rd"
  walk_at "cp"
  refine cIter_pre sT D (fun A ys σ H => ∃ (v : Option T) (as : List Addr),σ = [v,some (T.tup [T.tup (tk.map tkT),T.tup (ors.map orT),T.tup (prs.map prT),T.tup (row.map T.str)]),some (.tup (zs.map T.int))] /\ ys = as.map T.ref /\ Pc c H2 H [] as (A.map fun ns => (ld tk ns,ld2 (tk.zip zs) ns))) ⟨_,[],rfl,rfl,w9,⟨rfl,(fun _ _ _ h => nomatch h)⟩,(fun _ h => nomatch h)⟩ ?_ ?_
  rotate_left
  ·
   rintro A ns' B ys σ H N e ⟨v,as,rfl,rfl,pc⟩ hN
   refine ⟨trivial,?_⟩
   have hA : A.length + 1 <= 8:=by
    have:=congrArg List.length e
    simp only [List.length_append,List.length_cons] at this
    omega
   have hN':=Box.mk hN
   clear hN e hR8 k' hmo'
   simp only [sT]
   walk_at "rd"
   refine ⟨⟨tk,ors,prs,row⟩,zs,ns',rfl,t8,hzl'.out,fun p hp => ⟨?_,?_⟩⟩
   ·
    have:=pc.p.l
    rw [List.length_map] at this
    omega
   ·
    refine hN'.out _ _ _ ⟨_,as ++ [p],rfl,by rw [List.map_append]; rfl,?_⟩
    rw [List.map_append]
    exact pc.grow hp
  rintro ys σ H ⟨v,as,rfl,rfl,pc⟩
  have hal:=pc.p.l
  rw [List.length_map] at hal
  refine ⟨trivial,by rw [List.length_map]; omega,fun pa hpa => ?_⟩
  have pc2:=pc.new (o:=.lst (as.map T.ref)) hpa
  generalize up3 H pa (.lst (as.map T.ref)) = H11 at pc2
  obtain ⟨xs,exs⟩ : ∃ xs,xs = D.map fun ns => (ld tk ns,ld2 (tk.zip zs) ns):=⟨_,rfl⟩
  rw [<- exs] at pc2
  have exs':=Box.mk exs
  clear w9 pc hpa hal exs
  walk_at "nx"
  refine seq_cut fun R9 hR9 => ?_
  walk_at "rd"
  refine ⟨⟨tk,ors,prs,row⟩,zs,beat,D,ia,ib,rfl,hW,hzl'.out,d1,d8,a1,by omega,b1,by omega,hf'.out,?_⟩
  try dsimp only
  obtain ⟨tn,etn,htn,hmin⟩:=least_is (lagV tk zs beat D) (allF (ia + ib) ia ib) allF_ne
  have ht:=allF_trn _ ia ib rfl tn htn
  have hTn : Tn tn:=ht.tn (by omega) (by omega)
  have ec1:=ht.o
  have ec2:=ht.t
  have elen:=ht.l
  have hft : Fits tk zs beat D (c1 tn) (c2 tn):=by rw [ec1,ec2]; exact hf'.out
  have elag:=lag3_is hTn hft
  rw [<- exs'.out] at elag
  rw [etn]
  have etn':=Box.mk etn
  have hmin':=Box.mk hmin
  have elag':=Box.mk elag
  have ec1':=Box.mk ec1
  have ec2':=Box.mk ec2
  have elen':=Box.mk elen
  clear etn hmin htn ht elag hft ec1 ec2 elen
  obtain ⟨lg,elg⟩ : ∃ lg,lg = lagV tk zs beat D tn:=⟨_,rfl⟩
  rw [show lgT (lagV tk zs beat D) tn = .tup [.int lg,.tup (tn.map T.str)] by rw [elg]; rfl]
  rw [<- elg] at elag'
  have elg':=Box.mk elg
  clear elg
  walk_at "nx"
  refine seq_cut fun R10 hR10 => ?_
  walk_at "rd"
  rw [if_neg (by decide)]
  walk_at "nx"
  have es:=strs3_map tn
  have f1 : ((tn.countP (fun t : Str => t == ("one" : Str)) : Nat) : Int) = ia:=ec1'.out
  have f2 : ((tn.countP (fun t : Str => t == ("other" : Str)) : Nat) : Int) = ib:=ec2'.out
  refine seq_cut fun R11 hR11 => ?_
  walk_at "rd"
  refine ⟨trivial,trivial,by decide,rfl,rfl,?_⟩
  clear f1 f2 es
  walk_at "nx"
  have f3:=elen'.out
  refine seq_cut fun R12 hR12 => ?_
  have gpa:=pc2.w.hd
  walk_at "rd"
  rw [if_neg (by rw [decide_eq_true (show ((ia + ib : Nat) : Int) = (ia : Int) + (ib : Int) by omega)]; decide)]
  refine ⟨pa,as,xs,beat,tn,rfl,gpa,pc2.p,hTn,?_⟩
  rw [elag'.out]
  clear f3 gpa
  walk_at "rd"
  walk_at "nx"
  refine seq_cut fun R13 hR13 => ?_
  have go : ∀ (r : Addr) (L : List (List Str)) (H' : Hp3),Pc c H2 H' [(pa,.lst (as.map T.ref))] as xs -> H' r = some (.lst (L.map sT)) -> (∀ t ∈ L,Trn t ia ib) -> L.length <= 1000 -> R13 { nx:=fun x H' => Fin3 Q T.non H',rt:=Fin3 Q } [some (T.ref a),some (T.ref c),some (T.tup [T.tup (tk.map tkT),T.tup (ors.map orT),T.tup (prs.map prT),T.tup (row.map T.str)]),some (T.tup (D.map sT)),some (T.tup (zs.map T.int)),some (T.int most),some (T.tup [T.int ia,T.int ib]),some (T.int beat),some (T.ref pa),some (T.tup [T.int lg,T.tup (tn.map T.str)]),some (T.ref r)] H':=by
   intro r L H' pc3 gr hL hLl
   walk_at "nx"
   refine seq_cut fun R14 hR14 => ?_
   have gpa:=pc3.w.hd
   have gr':=Box.mk gr
   walk_at "rd"
   walk_at "cp"
   have hge : ∀ t ∈ L,lg <= lag3 beat t xs:=fun t ht => by
    have h:=hL t ht
    have e:=lag3_is (tk:=tk) (zs:=zs) (beat:=beat) (D:=D) (h.tn (by omega) (by omega)) (by rw [h.o,h.t]; exact hf'.out)
    rw [<- exs'.out] at e
    rw [e,elg'.out]
    exact hmin'.out t (allF_all t ia ib h)
   have hge':=Box.mk hge
   clear hge
   refine cIter_pure sT (fun _ => T.bl false) L [some (T.ref pa),some (T.int beat),some (T.tup [T.int lg,T.tup (tn.map T.str)])] (.inl gr'.out) (by omega) (fun t ht Q' hq' => ?_) (fun p hp => ?_)
   ·
    have h1:=hge'.out t ht
    have h2 : decide (lag3 beat t xs < lg) = false:=decide_eq_false (by omega)
    have htn:=(hL t ht).tn (by omega) (by omega)
    have pp:=pc3.p
    clear hR14 gr gr' hge' k' hL h1
    walk_at "rd"
    refine ⟨pa,as,xs,beat,t,rfl,gpa,pp,htn,?_⟩
    walk_at "rd"
    try exact hq'
   ·
    rw [show L.map (fun _ => T.bl false) = (L.map fun _ => false).map T.bl by rw [List.map_map]; rfl,bools3_map,q_oq,if_neg (by simp)]
    have pc4:=pc3.new (o:=.lst ((L.map fun _ => false).map T.bl)) hp
    generalize up3 H' p (.lst ((L.map fun _ => false).map T.bl)) = H12 at pc4
    clear pc3 hp gr gr' gpa hge'
    walk_at "nx"
    walk_at "rd"
    by_cases h7 : (7 : Int) < ia + ib
    ·
     rw [if_pos (decide_eq_true h7)]
     exact Fin3.of Sub3.refl (k'.out _)
    ·
     rw [if_neg (by rw [decide_eq_false h7]; exact Bool.false_ne_true)]
     refine ⟨⟨tk,ors,prs,row⟩,zs,beat,D,ia,ib,rfl,hW,hzl'.out,d1,d8,a1,by omega,b1,by omega,hf'.out,?_⟩
     try dsimp only
     rw [etn'.out,show lgT (lagV tk zs beat D) tn = .tup [.int lg,.tup (tn.map T.str)] by rw [elg'.out]; rfl]
     have hp2 : [T.int lg,T.tup (tn.map T.str)].all (pl 20) = true:=by simp [pl]
     walk_at "rd"
     first | exact ⟨trivial,trivial,Fin3.of Sub3.refl (k'.out _)⟩ | exact Fin3.of Sub3.refl (k'.out _) | (simp only [decide_true]; exact ⟨hp2,hp2,Fin3.of Sub3.refl (k'.out _)⟩)
  have go':=Box.mk go
  clear go hR13
  walk_at "rd"
  by_cases h3 : most = 3
  ·
   rw [if_pos (decide_eq_true h3)]
   refine ⟨ia,ib,rfl,by omega,by omega,fun p L hp hL hLl => ?_⟩
   exact go'.out p L _ ⟨⟨(pc2.w.new hp).cl,(pc2.w.new hp).kp,fun q hq => (pc2.w.new hp).at' q (.tail _ hq)⟩,(pc2.new hp).p,pc2.n⟩ up3_same hL hLl
  ·
   rw [if_neg (by rw [decide_eq_false h3]; exact Bool.false_ne_true)]
   refine ⟨trivial,by omega,by omega,?_⟩
   rw [show Int.toNat 12 = 12 from rfl,show rng3 0 12 = (List.range 12).map (fun (i : Nat) => T.int (i : Int)) from rng0 _]
   walk_at "cp"
   refine cIter_pre (fun (i : Nat) => T.int (i : Int)) (List.range 12) (fun A ys σ H => ∃ (v : Option T) (L : List (List Str)),σ = [v,some (.ref c),some (.tup [.int ia,.int ib])] /\ ys = L.map sT /\ L.length = A.length /\ (∀ t ∈ L,Trn t ia ib) /\ Pc c H2 H [(pa,.lst (as.map T.ref))] as xs) ⟨_,[],rfl,rfl,rfl,(fun _ h => nomatch h),pc2⟩ ?_ ?_
   ·
    rintro ys σ H ⟨v,L,rfl,rfl,hLl,hL,pc3⟩
    rw [List.length_range] at hLl
    refine ⟨trivial,by rw [List.length_map]; omega,fun p hp => ?_⟩
    exact go'.out p L _ ⟨⟨(pc3.w.new hp).cl,(pc3.w.new hp).kp,fun q hq => (pc3.w.new hp).at' q (.tail _ hq)⟩,(pc3.new hp).p,pc3.n⟩ up3_same hL (by omega)
   ·
    rintro A i B ys σ H N e ⟨v,L,rfl,rfl,hLl,hL,pc3⟩ hN
    refine ⟨trivial,?_⟩
    obtain ⟨hi,hi2⟩:=rng_at e
    have hN':=Box.mk hN
    have hL':=Box.mk hL
    have hLl':=Box.mk hLl
    have hi':=Box.mk hi
    clear hN e go' hL hLl hi
    walk_at "rd"
    refine ⟨c,ia,ib,rfl,pc3.w.cl,by omega,by omega,by omega,by omega,fun t H' ht e1 e2 hD => ⟨?_,?_⟩⟩
    ·
     have:=hLl'.out
     have:=hi'.out
     omega
    ·
     refine hN'.out _ _ _ ⟨_,L ++ [t],rfl,by rw [List.map_append]; rfl,by rw [List.length_append,List.length_append,hLl'.out]; rfl,fun u hu => ?_,pc3.drw hD⟩
     rcases List.mem_append.mp hu with h | h
     ·
      exact hL'.out u h
     ·
      rw [List.mem_singleton.mp h]; exact ht.trn e1 e2
end
end M
namespace M
open PySem PySem.Spec PyProof.Rows L2 L3
noncomputable def noList (K : PySem.W.Frag) : Bool:=K.all fun p => !(p.2.cls == .type "list")
theorem mem_look {K : PySem.W.Frag} {a : Addr} {o : Obj} (e : K.lookup a = some o) : (a,o) ∈ K:=by
 induction K with
 | nil => cases e
 | cons p r ih =>
  obtain ⟨b,u⟩:=p
  rw [List.lookup_cons] at e
  split at e
  ·
   rename_i h
   rw [eq_of_beq h,Option.some.inj e]
   exact List.mem_cons_self
  ·
   exact List.mem_cons_of_mem _ (ih e)
theorem noList_no {K : PySem.W.Frag} (h : noList K = true) {a : Addr} {o : Obj} (e : K.lookup a = some o) : o.cls ≠ .type "list":=fun z => by
 have hm : (a,o) ∈ K:=mem_look e
 have q:=List.all_eq_true.mp h (a,o) hm
 rw [z] at q
 simp at q
theorem uc {n : Nat} {us : List Value} (h : us.length = n + 1) : ∃ (a : Value) (r : List Value),us = a :: r /\ r.length = n:=by
 cases us with
 | nil => exact nomatch h
 | cons a r => exact ⟨a,r,rfl,Nat.succ.inj h⟩
theorem uz {us : List Value} (h : us.length = 0) : us = []:=List.eq_nil_of_length_eq_zero h
theorem ub1 {fd : FuncData} {x0 : Str} (h : ∀ a0 : Value,bindArgs fd ⟨[a0],[]⟩ = pure ([x0].zip [a0])) (us : List Value) (e : us.length = 1) : bindArgs fd ⟨us,[]⟩ = pure ([x0].zip us):=by
 obtain ⟨a0,r0,q0,e0⟩:=uc e
 rw [q0,uz e0]; exact h a0
theorem ub2 {fd : FuncData} {x0 x1 : Str} (h : ∀ a0 a1 : Value,bindArgs fd ⟨[a0,a1],[]⟩ = pure ([x0,x1].zip [a0,a1])) (us : List Value) (e : us.length = 2) : bindArgs fd ⟨us,[]⟩ = pure ([x0,x1].zip us):=by
 obtain ⟨a0,r0,q0,e0⟩:=uc e
 obtain ⟨a1,r1,q1,e1⟩:=uc e0
 rw [q0,q1,uz e1]; exact h a0 a1
theorem ub3 {fd : FuncData} {x0 x1 x2 : Str} (h : ∀ a0 a1 a2 : Value,bindArgs fd ⟨[a0,a1,a2],[]⟩ = pure ([x0,x1,x2].zip [a0,a1,a2])) (us : List Value) (e : us.length = 3) : bindArgs fd ⟨us,[]⟩ = pure ([x0,x1,x2].zip us):=by
 obtain ⟨a0,r0,q0,e0⟩:=uc e
 obtain ⟨a1,r1,q1,e1⟩:=uc e0
 obtain ⟨a2,r2,q2,e2⟩:=uc e1
 rw [q0,q1,q2,uz e2]; exact h a0 a1 a2
theorem ub4 {fd : FuncData} {x0 x1 x2 x3 : Str} (h : ∀ a0 a1 a2 a3 : Value,bindArgs fd ⟨[a0,a1,a2,a3],[]⟩ = pure ([x0,x1,x2,x3].zip [a0,a1,a2,a3])) (us : List Value) (e : us.length = 4) : bindArgs fd ⟨us,[]⟩ = pure ([x0,x1,x2,x3].zip us):=by
 obtain ⟨a0,r0,q0,e0⟩:=uc e
 obtain ⟨a1,r1,q1,e1⟩:=uc e0
 obtain ⟨a2,r2,q2,e2⟩:=uc e1
 obtain ⟨a3,r3,q3,e3⟩:=uc e2
 rw [q0,q1,q2,q3,uz e3]; exact h a0 a1 a2 a3
theorem ub5 {fd : FuncData} {x0 x1 x2 x3 x4 : Str} (h : ∀ a0 a1 a2 a3 a4 : Value,bindArgs fd ⟨[a0,a1,a2,a3,a4],[]⟩ = pure ([x0,x1,x2,x3,x4].zip [a0,a1,a2,a3,a4])) (us : List Value) (e : us.length = 5) : bindArgs fd ⟨us,[]⟩ = pure ([x0,x1,x2,x3,x4].zip us):=by
 obtain ⟨a0,r0,q0,e0⟩:=uc e
 obtain ⟨a1,r1,q1,e1⟩:=uc e0
 obtain ⟨a2,r2,q2,e2⟩:=uc e1
 obtain ⟨a3,r3,q3,e3⟩:=uc e2
 obtain ⟨a4,r4,q4,e4⟩:=uc e3
 rw [q0,q1,q2,q3,q4,uz e4]; exact h a0 a1 a2 a3 a4
theorem g_mk {K : PySem.W.Frag} {h : Heap} {mg : Str -> Option Value} {x : Str} {st : Stmt} {ps : List Str} {f : Addr} {oc : Value} {od an : Option Addr} {osl : Array (Option Value)} {kV doc pm cdv ct : Value} (X : K.In h) (G : h.Ns mainGlobals mg)
  (a : PySem.W.nsIn K mainGlobals x = some (some (.ref f))) (l : K.lookup f = some ⟨oc,od,.func (PySem.W.fnOf x x (defArgs st) (defBody st) (defScope st) .none kV doc pm an cdv ct),osl⟩) (c : PySem.W.codeIn K cdv x = true) (k : PySem.W.keepIn K (.ref f) = true)
  (hb : ∀ (kV doc pm : Value) (an : Option Addr) (cdv ct : Value) (us : List Value),us.length = ps.length -> bindArgs (PySem.W.fnOf x x (defArgs st) (defBody st) (defScope st) .none kV doc pm an cdv ct) ⟨us,[]⟩ = pure (ps.zip us)) :
  G3 K mg x st ps f (PySem.W.fnOf x x (defArgs st) (defBody st) (defScope st) .none kV doc pm an cdv ct) :=
 have F:=fun_mk (st:=st) l c k
 ⟨F,F.binds hb,PySem.W.mg_of X G a⟩
noncomputable def qv : Program:={ PySem.Challenge.pw_stationrow_k83_least_lags with main:={ PySem.Challenge.pw_stationrow_k83_least_lags.main with body:=([1,2,4,5,7,8,9,11,12,13,14,15,16,17,19,20,21,22,23,24,25,26,27,28,29,30,31,32,33,34,35,36,37,38] : List Nat).map top } }
noncomputable def en (P : Params) (n : Str) (t : Nat) (v : Value) : DictEntry:=⟨PyData.keyHash P n,.str n t,v⟩
noncomputable def cO (n : Str) (c : Nat) (b : Bool) (a j l k : Nat) : Obj:=⟨.type "code",none,.fields #[.str n a,.str n (a + 1),.str "/claim/cut.py" (a + 2),.int l 0,.int k 0,.int 0 0,.int 0 0,.int 3 0,.ref (c - (bif b then 5 else 3)),.bool true,.int 181 0,.ref (c - (bif b then 4 else 2)),.none,bif b then .ref (c - 3) else .none,bif b then .ref (c - 2) else .none,.ref (c - 1),.int j 0,.int l 0,.str "/claim/cut.py" (j + 1)],#[]⟩
noncomputable def fO (i : Nat) (n m : Str) (t c : Nat) : Obj:=⟨.type "function",none,.func (PySem.W.fnOf n n (defArgs (top i)) (defBody (top i)) (defScope (top i)) .none .none .none (.str m t) none (.ref c) .none),#[]⟩
theorem g_of (i : Nat) (ps : List Str) (x : Str) (f : Addr) (m : Str) (t c : Nat) {K : PySem.W.Frag} {h : Heap} {mg : Str -> Option Value} (X : K.In h) (G : h.Ns mainGlobals mg)
  (hb : ∀ (kV doc pm : Value) (an : Option Addr) (cdv ct : Value) (us : List Value),us.length = ps.length -> bindArgs (PySem.W.fnOf x x (defArgs (top i)) (defBody (top i)) (defScope (top i)) .none kV doc pm an cdv ct) ⟨us,[]⟩ = pure (ps.zip us))
  (a : PySem.W.nsIn K mainGlobals x = some (some (.ref f)):=by kernel_rfl) (l : K.lookup f = some (fO i x m t c):=by kernel_rfl) (e : PySem.W.codeIn K (.ref c) x = true:=by kernel_rfl) (k : PySem.W.keepIn K (.ref f) = true:=by kernel_rfl) :
  G3 K mg x (top i) ps f (PySem.W.fnOf x x (defArgs (top i)) (defBody (top i)) (defScope (top i)) .none .none .none (.str m t) none (.ref c) .none) :=
 g_mk X G a l e k hb
noncomputable def posOf : Stmt -> Pos -> Pos
 | .FunctionDef _ _ _ _ _ _ _ _ _ p,_ => p
 | _,p => p
noncomputable def dv : DefRec:=⟨"law",defArgs (top 38),defBody (top 38),defScope (top 38),posOf (top 38) default⟩
noncomputable def fx (i : Nat) (n m : Str) (t c : Nat) (b : Bool) (a j l k : Nat) : (Params -> DictEntry) × PySem.W.Frag:=(fun P => en P n (j + 2) (.ref (c + 1)),[(c,cO n c b a j l k),(c + 1,fO i n m t c)])
noncomputable def TB : List ((Params -> DictEntry) × PySem.W.Frag):=[fx 4 "load_of" "stationrow.dealings" 234 50 false 236 239 10 2,
 fx 5 "loads_of" "stationrow.dealings" 234 55 false 242 245 12 2,
 fx 7 "mixed_task" "stationrow.mixes" 248 62 true 250 256 15 3,
 fx 8 "mixed_works" "stationrow.mixes" 248 67 false 259 262 17 3,
 fx 9 "round_beat" "stationrow.mixes" 248 74 true 265 270 20 2,
 fx 11 "check_round" "stationrow.lags" 273 81 true 275 286 23 5,
 fx 12 "loads_by_word" "stationrow.lags" 273 88 true 289 295 28 3,
 fx 13 "stand_lag" "stationrow.lags" 273 95 true 298 306 30 2,
 fx 14 "loads_at" "stationrow.lags" 273 100 false 309 312 37 3,
 fx 15 "row_lag" "stationrow.lags" 273 105 false 315 318 39 3,
 fx 16 "all_turns" "stationrow.lags" 273 110 false 321 324 41 2,
 fx 17 "least_lag" "stationrow.lags" 273 115 false 327 330 50 5,
 fx 19 "_law_names" "law_stationrow_k83_least_lags" 333 122 true 335 351 55 2,
 fx 20 "_law_wide" "law_stationrow_k83_least_lags" 333 129 true 354 360 80 1,
 fx 21 "_law_next" "law_stationrow_k83_least_lags" 333 136 true 363 368 87 1,
 fx 22 "_law_deck" "law_stationrow_k83_least_lags" 333 143 true 371 376 92 1,
 fx 23 "_law_tasks" "law_stationrow_k83_least_lags" 333 150 true 379 394 97 4,
 fx 24 "_law_turn" "law_stationrow_k83_least_lags" 333 157 true 397 406 115 2,
 fx 25 "_law_orders" "law_stationrow_k83_least_lags" 333 164 true 409 419 123 3,
 fx 26 "_law_pairs" "law_stationrow_k83_least_lags" 333 171 true 422 434 131 4,
 fx 27 "_law_works" "law_stationrow_k83_least_lags" 333 176 false 437 440 141 3,
 fx 28 "_law_reach" "law_stationrow_k83_least_lags" 333 181 false 443 446 153 2,
 fx 29 "_law_at" "law_stationrow_k83_least_lags" 333 186 false 449 452 169 2,
 fx 30 "_law_sound" "law_stationrow_k83_least_lags" 333 191 false 455 458 171 1,
 fx 31 "_law_dealing" "law_stationrow_k83_least_lags" 333 196 false 461 464 183 2,
 fx 32 "_law_others" "law_stationrow_k83_least_lags" 333 203 true 467 476 189 2,
 fx 33 "_law_loads" "law_stationrow_k83_least_lags" 333 210 true 479 488 196 3,
 fx 34 "_law_beat" "law_stationrow_k83_least_lags" 333 217 true 491 506 203 5,
 fx 35 "_law_lag" "law_stationrow_k83_least_lags" 333 224 true 509 519 213 3,
 fx 36 "_law_all" "law_stationrow_k83_least_lags" 333 229 false 522 525 221 2,
 fx 37 "_law_drawn" "law_stationrow_k83_least_lags" 333 236 true 528 536 234 3,
 fx 38 "law" "law_stationrow_k83_least_lags" 333 241 false 539 542 239 1]
noncomputable def KK (P : Params) : PySem.W.Frag:=(3,⟨.type "dict",none,.dict ([en P "__name__" 165 (.str "law_stationrow_k83_least_lags" 333),
 en P "__doc__" 166 .none,
 en P "__package__" 167 .none,
 en P "__loader__" 168 (.builtin "__main__.__loader__#opaque"),
 en P "__spec__" 169 .none,
 en P "__annotations__" 170 (.ref 6),
 en P "__builtins__" 171 (.ref 4),
 en P "__file__" 173 (.str "/claim/cut.py" 172),
 en P "__cached__" 174 .none,
 en P "RowError" 206 (.ref 24),
 en P "TooLong" 233 (.ref 44)] ++ TB.map fun r => r.1 P).toArray 43,#[]⟩) :: (TB.map fun r => r.2).flatten
noncomputable def HK : PySem.W.Hook:=PySem.W.kHook KK [3,50,51,55,56,62,63,67,68,74,75,81,82,88,89,95,96,100,101,105,106,110,111,115,116,122,123,129,130,136,137,143,144,150,151,157,158,164,165,171,172,176,177,181,182,186,187,191,192,196,197,203,204,210,211,217,218,224,225,229,230,236,237,241,242] (fun _ => by kernel_rfl)
theorem left : PySem.W.LeftO (PySem.W.OpenLaw.row PySem.Challenge.rw_stationrow_k83_least_lags).prog qv [] (fun s => PySem.W.xlAt qv [] s && PySem.W.recOk (PySem.W.RowW.records (PySem.W.OpenLaw.row PySem.Challenge.rw_stationrow_k83_least_lags).toRowW) s) (PySem.W.Hook.obs HK) (PySem.W.Hook.val HK) 3040:=by
 intro w
 kernel_rfl
theorem all_ok {l : PySem.W.OpenLaw} {w : World} {h : Heap} {mg : Str -> Option Value} {fa : Addr} (X : (KK w.params).In h) (G : h.Ns mainGlobals mg) (hfa : mg "law" = some (.ref fa)) :
  ∃ fd : FuncData,(∀ (s : Shared) (v : Value),BindsTo s fd ⟨[v],[]⟩ [("_law_script",v)]) /\ ∀ base : Heap,(KK w.params).In base -> base.Ns mainGlobals mg -> FnOk3 l.prog w (KK w.params) mg base 13 fa fd ["_law_script"] spLaw:=by
 have at_ : ∀ {n : Str} {v : Value},PySem.W.nsIn (KK w.params) mainGlobals n = some (some v) -> mg n = some v:=fun e => PySem.W.mg_of X G e
 have no_ : ∀ {n : Str},PySem.W.nsIn (KK w.params) mainGlobals n = some none -> mg n = none:=fun e => PySem.W.mg_none_of X G e
 have e:=hfa.symm.trans (at_ (v:=.ref 242) (by kernel_rfl))
 cases e
 have B : Bl mg:=⟨no_ (by kernel_rfl),no_ (by kernel_rfl),no_ (by kernel_rfl),no_ (by kernel_rfl),no_ (by kernel_rfl),no_ (by kernel_rfl),no_ (by kernel_rfl),no_ (by kernel_rfl),no_ (by kernel_rfl),no_ (by kernel_rfl),no_ (by kernel_rfl),no_ (by kernel_rfl),no_ (by kernel_rfl),no_ (by kernel_rfl),no_ (by kernel_rfl),no_ (by kernel_rfl),no_ (by kernel_rfl),no_ (by kernel_rfl),no_ (by kernel_rfl),no_ (by kernel_rfl)⟩
 have g_load_of:=g_of 4 ["works","tasks"] "load_of" 51 "stationrow.dealings" 234 50 X G fun _ _ _ _ _ _ => ub2 fun _ _ => rfl
 have g_loads_of:=g_of 5 ["works","dealing"] "loads_of" 56 "stationrow.dealings" 234 55 X G fun _ _ _ _ _ _ => ub2 fun _ _ => rfl
 have g_mixed_task:=g_of 7 ["task","other","mix"] "mixed_task" 63 "stationrow.mixes" 248 62 X G fun _ _ _ _ _ _ => ub3 fun _ _ _ => rfl
 have g_mixed_works:=g_of 8 ["works","others","mix"] "mixed_works" 68 "stationrow.mixes" 248 67 X G fun _ _ _ _ _ _ => ub3 fun _ _ _ => rfl
 have g_round_beat:=g_of 9 ["beat","mix"] "round_beat" 75 "stationrow.mixes" 248 74 X G fun _ _ _ _ _ _ => ub2 fun _ _ => rfl
 have g_check_round:=g_of 11 ["works","others","beat","dealing","mix"] "check_round" 82 "stationrow.lags" 273 81 X G fun _ _ _ _ _ _ => ub5 fun _ _ _ _ _ => rfl
 have g_loads_by_word:=g_of 12 ["works","others","dealing"] "loads_by_word" 89 "stationrow.lags" 273 88 X G fun _ _ _ _ _ _ => ub3 fun _ _ _ => rfl
 have g_stand_lag:=g_of 13 ["beat","loads"] "stand_lag" 96 "stationrow.lags" 273 95 X G fun _ _ _ _ _ _ => ub2 fun _ _ => rfl
 have g_loads_at:=g_of 14 ["loads","turns","stand"] "loads_at" 101 "stationrow.lags" 273 100 X G fun _ _ _ _ _ _ => ub3 fun _ _ _ => rfl
 have g_row_lag:=g_of 15 ["beat","loads","turns"] "row_lag" 106 "stationrow.lags" 273 105 X G fun _ _ _ _ _ _ => ub3 fun _ _ _ => rfl
 have g_all_turns:=g_of 16 ["one","other"] "all_turns" 111 "stationrow.lags" 273 110 X G fun _ _ _ _ _ _ => ub2 fun _ _ => rfl
 have g_least_lag:=g_of 17 ["works","others","beat","dealing","mix"] "least_lag" 116 "stationrow.lags" 273 115 X G fun _ _ _ _ _ _ => ub5 fun _ _ _ _ _ => rfl
 have g_names:=g_of 19 ["_law_cell","_law_many"] "_law_names" 123 "law_stationrow_k83_least_lags" 333 122 X G fun _ _ _ _ _ _ => ub2 fun _ _ => rfl
 have g_wide:=g_of 20 ["_law_number"] "_law_wide" 130 "law_stationrow_k83_least_lags" 333 129 X G fun _ _ _ _ _ _ => ub1 fun _ => rfl
 have g_next:=g_of 21 ["_law_cells"] "_law_next" 137 "law_stationrow_k83_least_lags" 333 136 X G fun _ _ _ _ _ _ => ub1 fun _ => rfl
 have g_deck:=g_of 22 ["_law_script"] "_law_deck" 144 "law_stationrow_k83_least_lags" 333 143 X G fun _ _ _ _ _ _ => ub1 fun _ => rfl
 have g_tasks:=g_of 23 ["_law_cells","_law_names_here","_law_pool","_law_free"] "_law_tasks" 151 "law_stationrow_k83_least_lags" 333 150 X G fun _ _ _ _ _ _ => ub4 fun _ _ _ _ => rfl
 have g_turn:=g_of 24 ["_law_cell","_law_names_here"] "_law_turn" 158 "law_stationrow_k83_least_lags" 333 157 X G fun _ _ _ _ _ _ => ub2 fun _ _ => rfl
 have g_orders:=g_of 25 ["_law_cell","_law_turn_here","_law_often"] "_law_orders" 165 "law_stationrow_k83_least_lags" 333 164 X G fun _ _ _ _ _ _ => ub3 fun _ _ _ => rfl
 have g_pairs:=g_of 26 ["_law_cell","_law_names_here","_law_many","_law_withs"] "_law_pairs" 172 "law_stationrow_k83_least_lags" 333 171 X G fun _ _ _ _ _ _ => ub4 fun _ _ _ _ => rfl
 have g_works:=g_of 27 ["_law_cells","_law_most","_law_withs"] "_law_works" 177 "law_stationrow_k83_least_lags" 333 176 X G fun _ _ _ _ _ _ => ub3 fun _ _ _ => rfl
 have g_reach:=g_of 28 ["_law_works_here","_law_words"] "_law_reach" 182 "law_stationrow_k83_least_lags" 333 181 X G fun _ _ _ _ _ _ => ub2 fun _ _ => rfl
 have g_at:=g_of 29 ["_law_kind","_law_tasks_here"] "_law_at" 187 "law_stationrow_k83_least_lags" 333 186 X G fun _ _ _ _ _ _ => ub2 fun _ _ => rfl
 have g_sound:=g_of 30 ["_law_works_here"] "_law_sound" 192 "law_stationrow_k83_least_lags" 333 191 X G fun _ _ _ _ _ _ => ub1 fun _ => rfl
 have g_dealing:=g_of 31 ["_law_works_here","_law_cells"] "_law_dealing" 197 "law_stationrow_k83_least_lags" 333 196 X G fun _ _ _ _ _ _ => ub2 fun _ _ => rfl
 have g_others:=g_of 32 ["_law_works_here","_law_cells"] "_law_others" 204 "law_stationrow_k83_least_lags" 333 203 X G fun _ _ _ _ _ _ => ub2 fun _ _ => rfl
 have g_loads:=g_of 33 ["_law_works_here","_law_others_here","_law_tasks_here"] "_law_loads" 211 "law_stationrow_k83_least_lags" 333 210 X G fun _ _ _ _ _ _ => ub3 fun _ _ _ => rfl
 have g_beat:=g_of 34 ["_law_works_here","_law_others_here","_law_dealing_here","_law_mix","_law_cell"] "_law_beat" 218 "law_stationrow_k83_least_lags" 333 217 X G fun _ _ _ _ _ _ => ub5 fun _ _ _ _ _ => rfl
 have g_lag:=g_of 35 ["_law_pairs_here","_law_beat_here","_law_turns"] "_law_lag" 225 "law_stationrow_k83_least_lags" 333 224 X G fun _ _ _ _ _ _ => ub3 fun _ _ _ => rfl
 have g_all:=g_of 36 ["_law_first","_law_second"] "_law_all" 230 "law_stationrow_k83_least_lags" 333 229 X G fun _ _ _ _ _ _ => ub2 fun _ _ => rfl
 have g_drawn:=g_of 37 ["_law_cells","_law_first","_law_second"] "_law_drawn" 237 "law_stationrow_k83_least_lags" 333 236 X G fun _ _ _ _ _ _ => ub3 fun _ _ _ => rfl
 have g_law:=g_of 38 ["_law_script"] "law" 242 "law_stationrow_k83_least_lags" 333 241 X G fun _ _ _ _ _ _ => ub1 fun _ => rfl
 refine ⟨PySem.W.fnOf "law" "law" (defArgs (top 38)) (defBody (top 38)) (defScope (top 38)) .none .none .none (.str "law_stationrow_k83_least_lags" 333) none (.ref 241) .none,fun s v => .of_eq rfl,fun base _ _ => ?_⟩
 have F_wide:=ok_wide (P:=l.prog) (w:=w) (base:=base) g_wide B
 have F_deck:=ok_deck (P:=l.prog) (w:=w) (base:=base) g_deck B F_wide
 have F_at:=ok_at (P:=l.prog) (w:=w) (base:=base) g_at B
 have F_reach:=ok_reach (P:=l.prog) (w:=w) (base:=base) g_reach B
 have F_sound:=ok_sound (P:=l.prog) (w:=w) (base:=base) g_sound B F_at F_reach
 have F_turn:=ok_turn (P:=l.prog) (w:=w) (base:=base) g_turn B
 have F_next:=ok_next (P:=l.prog) (w:=w) (base:=base) g_next B F_wide
 have F_pairs:=ok_pairs (P:=l.prog) (w:=w) (base:=base) g_pairs B
 have F_orders:=ok_orders (P:=l.prog) (w:=w) (base:=base) g_orders B
 have F_tasks:=ok_tasks (P:=l.prog) (w:=w) (base:=base) g_tasks B F_next
 have F_names:=ok_names (P:=l.prog) (w:=w) (base:=base) g_names B
 have F_works:=ok_works (P:=l.prog) (w:=w) (base:=base) g_works B F_turn F_next F_pairs F_orders F_tasks F_names
 have F_dealing:=ok_dealing (P:=l.prog) (w:=w) (base:=base) g_dealing B F_next
 have F_others:=ok_others (P:=l.prog) (w:=w) (base:=base) g_others B F_next
 have F_loads:=ok_loads (P:=l.prog) (w:=w) (base:=base) g_loads B
 have F_beat:=ok_beat (P:=l.prog) (w:=w) (base:=base) g_beat B F_loads
 have F_load_of:=ok_load_of (P:=l.prog) (w:=w) (base:=base) g_load_of B
 have F_loads_of:=ok_loads_of (P:=l.prog) (w:=w) (base:=base) g_loads_of B F_load_of
 have F_mixed_task:=ok_mixed_task (P:=l.prog) (w:=w) (base:=base) g_mixed_task B
 have F_mixed_works:=ok_mixed_works (P:=l.prog) (w:=w) (base:=base) g_mixed_works B F_mixed_task
 have F_round_beat:=ok_round_beat (P:=l.prog) (w:=w) (base:=base) g_round_beat B
 have F_check_round:=ok_check_round (P:=l.prog) (w:=w) (base:=base) g_check_round B F_loads_of F_mixed_works F_round_beat
 have F_loads_by_word:=ok_loads_by_word (P:=l.prog) (w:=w) (base:=base) g_loads_by_word B F_loads_of F_mixed_works
 have F_stand_lag:=ok_stand_lag (P:=l.prog) (w:=w) (base:=base) g_stand_lag B
 have F_loads_at:=ok_loads_at (P:=l.prog) (w:=w) (base:=base) g_loads_at B
 have F_row_lag:=ok_row_lag (P:=l.prog) (w:=w) (base:=base) g_row_lag B F_stand_lag F_loads_at
 have F_all_turns:=(ok_all_turns (P:=l.prog) (w:=w) (base:=base) g_all_turns B (ok_all_turns (P:=l.prog) (w:=w) (base:=base) g_all_turns B (ok_all_turns (P:=l.prog) (w:=w) (base:=base) g_all_turns B (ok_all_turns (P:=l.prog) (w:=w) (base:=base) g_all_turns B (ok_all_turns (P:=l.prog) (w:=w) (base:=base) g_all_turns B (ok_all_turns (P:=l.prog) (w:=w) (base:=base) g_all_turns B (ok_all_turns (P:=l.prog) (w:=w) (base:=base) g_all_turns B (ok_all_turns (P:=l.prog) (w:=w) (base:=base) g_all_turns B (ok_all_turns (P:=l.prog) (w:=w) (base:=base) g_all_turns B (ok_all_turns (P:=l.prog) (w:=w) (base:=base) g_all_turns B (ok_all_turns (P:=l.prog) (w:=w) (base:=base) g_all_turns B (all0 (P:=l.prog) (w:=w) (base:=base) g_all_turns))))))))))))
 have F_least_lag:=ok_least_lag (P:=l.prog) (w:=w) (base:=base) g_least_lag B F_check_round F_loads_by_word F_row_lag F_all_turns
 have F_lag:=ok_lag (P:=l.prog) (w:=w) (base:=base) g_lag B
 have F_all:=ok_all (P:=l.prog) (w:=w) (base:=base) g_all B
 have F_drawn:=ok_drawn (P:=l.prog) (w:=w) (base:=base) g_drawn B F_next
 exact ok_law (P:=l.prog) (w:=w) (base:=base) g_law B F_deck F_sound F_works F_next F_dealing F_others F_beat F_loads F_least_lag F_lag F_all F_drawn
theorem walk {l : PySem.W.OpenLaw} {q : Program} {loose : List Str} {XP : (Str -> Option Value) -> Heap -> Prop} {YP : World -> Heap -> Prop} {d : DefRec} {K : Params -> PySem.W.Frag} (hn : l.most = some 63) (hdf : d.params.defaults = [])
  (hY : ∀ (w : World) (h : Heap),YP w h -> (K w.params).In h) (hNL : ∀ w : World,noList (K w.params) = true)
  (F : ∀ (w : World) (mg : Str -> Option Value) (fa : Addr) (h : Heap),(K w.params).In h -> h.Ns mainGlobals mg -> mg d.name = some (.ref fa) ->
   ∃ fd : FuncData,(∀ (s : Shared) (u : Value),BindsTo s fd ⟨[u],[]⟩ [("_law_script",u)]) /\ ∀ base : Heap,(K w.params).In base -> base.Ns mainGlobals mg -> FnOk3 l.prog w (K w.params) mg base 13 fa fd ["_law_script"] spLaw) :
  PySem.W.WalkO q loose XP YP l.row.toRowW d [] (fun f vs => PySem.call f vs):=by
 refine L2.walk_of (n:=63) (k:=13) (x:="_law_script") (CX:=fun _ => CX0) (sp:=fun w => lftSp (K w.params) spLaw) hn (by decide) hdf ⟨rfl,by decide,by decide,rfl⟩ hY F (fun w H a ns hl hO hS => ?_) fun _ _ _ _ _ z => z
 refine ⟨[.ref a],fun b => if b = a then some (.rol (ns.map T.int)) else none,fun t _ => t = .bl true,.cons .ofRef .nil,fun b o e => ?_,⟨a,ns,rfl,if_pos rfl,hl,fun _ => rfl⟩,fun v H' t H3' _ _ r q => ?_⟩
 ·
  dsimp only at e
  by_cases hb : b = a
  ·
   rw [if_pos hb] at e
   cases e
   subst hb
   rcases hS with hS | ⟨o,its,n,hk,hc,_⟩
   ·
    refine ⟨_,hS,?_⟩
    have : ∀ ms : List Int,Reps (K w.params) H (ms.map T.int) (ms.map V.int):=fun ms => by
     induction ms with
     | nil => exact .nil
     | cons m r ih => exact .cons .ofInt ih
    exact this ns
   ·
    exact absurd hc (noList_no (hNL w) hk)
  ·
   rw [if_neg hb] at e
   cases e
 ·
  subst q
  exact r.bl
end M
open PySem PySem.W PyProof.Rows
set_option maxRecDepth 100000 in
set_option maxHeartbeats 0 in
theorem PySem.Challenge.cw_stationrow_k83_least_lags_holds : PySem.Challenge.rw_stationrow_k83_least_lags.Holds := by
 refine holds_law (by kernel_rfl) fun said => ?_
 refine holds_open (d:=M.dv) (kwd:=[]) (q:=M.qv) (loose:=[]) (Xt:=fun s => xlAt M.qv [] s && recOk (RowW.records (OpenLaw.row PySem.Challenge.rw_stationrow_k83_least_lags).toRowW) s) (XP:=XL M.qv []) (Yf:=Hook.obs M.HK) (Ya:=Hook.val M.HK) (YP:=Hook.says M.HK) (N:=3040) M.left (Hook.of M.HK) (Hook.keeps M.HK) (fun s e => xl_of s (Bool.and_eq_true_iff.mp e).1) XL.keeps (by kernel_rfl) (by kernel_rfl) (by kernel_rfl) (fun s e => recFacts_of (Bool.and_eq_true_iff.mp e).2) (by kernel_rfl) (by first | assumption | kernel_rfl) (by kernel_rfl) ⟨rfl,rfl,rfl,rfl,rfl,by decide +kernel⟩ ?hw ?hc
 case hw => w_witness2
 case hc => exact M.walk (l:=PySem.Challenge.rw_stationrow_k83_least_lags) rfl rfl (fun w h Y => kIn_of Y) (fun w => by kernel_rfl) fun w mg fa h KX G hmg => M.all_ok KX G hmg
#print axioms PySem.Challenge.cw_stationrow_k83_least_lags_holds
