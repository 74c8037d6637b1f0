import PyProof.Rows.All
import Wide.All
import OpenK.AllK
import Wide.FinOn
import Lean
import PyProof.EqAt
import PyProof.EqKinds
import PyProof.TupleCall
import PyProof.NeKinds
import PySem.Challenge.RW_stationrow_k05_turned_about
set_option Elab.async false
set_option linter.all false
set_option maxRecDepth 100000
/-! THE HAND LAYER, for ints, bools, texts, own classes, LISTS and tuples (index, slices, in, append, pop ..), calls, loops. Paste it whole ahead of your own text; what your proof does not reach may be deleted. -/
namespace L2
open PySem PySem.Spec PyProof.Rows

/-- a key: an int or a str -/
abbrev Key := Sum Int Str
def keyIs : Key → Value → Bool
  | .inl k, v => Value.isInt k v
  | .inr x, v => Value.isStrOf x v
def keyH (w : World) : Key → Int
  | .inl k => hashInt k
  | .inr x => hashStr w x
theorem keyIs_shape : ∀ {k : Key} {v : Value}, keyIs k v = true → (∃ i t, k = Sum.inl i ∧ v = Value.int i t) ∨ (∃ x t, k = Sum.inr x ∧ v = Value.str x t)
  | .inl i, v, h => by
    obtain ⟨t, e⟩ := Value.isInt_shape (k := i) (v := v) h
    exact .inl ⟨i, t, rfl, e⟩
  | .inr x, v, h => by
    obtain ⟨t, e⟩ := Value.isStrOf_shape (x := x) (v := v) h
    exact .inr ⟨x, t, rfl, e⟩
theorem keyIs_int (i : Int) (t : Tok) : keyIs (.inl i) (.int i t) = true := by simp [keyIs, Value.isInt]
theorem keyIs_str (x : Str) (t : Tok) : keyIs (.inr x) (.str x t) = true := by simp [keyIs, Value.isStrOf]
theorem key_ll (a b : Int) : decide ((Sum.inl a : Key) = Sum.inl b) = (a == b) := by
  by_cases e : a = b
  · subst e; simp
  · have h : ¬ (Sum.inl a : Key) = Sum.inl b := fun q => e (Sum.inl.inj q)
    rw [decide_eq_false h]
    exact (beq_eq_false_iff_ne.mpr e).symm
theorem key_rr (a b : Str) : decide ((Sum.inr a : Key) = Sum.inr b) = decide (a = b) := by
  by_cases e : a = b
  · subst e; simp
  · have h : ¬ (Sum.inr a : Key) = Sum.inr b := fun q => e (Sum.inr.inj q)
    rw [decide_eq_false h, decide_eq_false e]
theorem key_lr (a : Int) (b : Str) : decide ((Sum.inl a : Key) = Sum.inr b) = false := decide_eq_false (fun q => nomatch q)
theorem key_rl (a : Str) (b : Int) : decide ((Sum.inr a : Key) = Sum.inl b) = false := decide_eq_false (fun q => nomatch q)

def mixKind (prog : Program) (w : World) : PySem.KeyKind prog w Key where
  is := keyIs
  hash := keyH w
  inj := fun v a b ha hb => by
    rcases keyIs_shape ha with ⟨i, t, rfl, rfl⟩ | ⟨x, t, rfl, rfl⟩
    · rcases keyIs_shape hb with ⟨j, u, rfl, e⟩ | ⟨y, u, rfl, e⟩
      · injection e with e1 _; rw [e1]
      · exact nomatch e
    · rcases keyIs_shape hb with ⟨j, u, rfl, e⟩ | ⟨y, u, rfl, e⟩
      · exact nomatch e
      · injection e with e1 _; rw [e1]
  byValue := fun k v h => by
    rcases keyIs_shape h with ⟨i, t, rfl, rfl⟩ | ⟨x, t, rfl, rfl⟩ <;> rfl
  pyHash := fun hv h => by
    rcases keyIs_shape hv with ⟨i, t, rfl, rfl⟩ | ⟨x, t, rfl, rfl⟩
    · exact wpAny_pyHash_int h
    · exact wpAny_pyHash_str h
  eqBool := fun hu hv h => by
    rcases keyIs_shape hu with ⟨i, t, rfl, rfl⟩ | ⟨x, t, rfl, rfl⟩
    · rcases keyIs_shape hv with ⟨j, u, rfl, rfl⟩ | ⟨y, u, rfl, rfl⟩
      · rw [key_ll] at h; exact wpAny_eqBool_int h
      · rw [key_lr] at h; exact SeqAt.EqAt.int_str i t y u _ _ _ _ h
    · rcases keyIs_shape hv with ⟨j, u, rfl, rfl⟩ | ⟨y, u, rfl, rfl⟩
      · rw [key_rl] at h; exact SeqAt.EqAt.str_int x t j u _ _ _ _ h
      · rw [key_rr] at h; exact wpAny_eqBool_str h
  «strs» := fun k x t v h => by
    rcases keyIs_shape h with ⟨i, u, rfl, e⟩ | ⟨y, u, rfl, e⟩
    · exact nomatch e
    · injection e with e1 _
      subst e1
      cases v <;> rfl

theorem mixKind_is (prog : Program) (w : World) (k : Key) (v : Value) : (mixKind prog w).is k v = keyIs k v := rfl
theorem mixKind_int (prog : Program) (w : World) (i : Int) (t : Tok) : (mixKind prog w).is (.inl i) (.int i t) = true := keyIs_int i t
theorem mixKind_str (prog : Program) (w : World) (x : Str) (t : Tok) : (mixKind prog w).is (.inr x) (.str x t) = true := keyIs_str x t
end L2

namespace L2
open PySem PySem.Spec PyProof.Rows

/-- a value, without the heap -/
inductive V where
  | non | bl (b : Bool) | int (i : Int) | str (x : Str) | byt (b : Array UInt8) | flt (b : UInt64) | ref (a : Addr) | ty (n : String)
  deriving DecidableEq

def RelV : V → Value → Prop
  | .non, u => u = Value.none
  | .bl b, u => u = Value.bool b
  | .int i, u => ∃ t, u = Value.int i t
  | .str x, u => ∃ t, u = Value.str x t
  | .byt b, u => ∃ t, u = Value.bytes b t
  | .flt b, u => ∃ t, u = Value.float b t
  | .ref a, u => u = Value.ref a
  | .ty n, u => u = Value.type n

abbrev Vals : List V → List Value → Prop := Paired RelV
theorem Vals.length {xs : List V} {us : List Value} (r : Vals xs us) : xs.length = us.length := Paired.length r
theorem Vals.get : ∀ {xs : List V} {us : List Value} {i : Nat} {x : V}, Vals xs us → xs[i]? = some x → ∃ u, us[i]? = some u ∧ RelV x u
  | _, _, _, _, .nil, e => by simp at e
  | _, _, 0, _, .cons r _, e => by simp at e; subst e; exact ⟨_, rfl, r⟩
  | _, _, i + 1, x, .cons _ t, e => by
    obtain ⟨u, h1, h2⟩ := Vals.get (i := i) (x := x) t (by simpa using e)
    exact ⟨u, by simpa using h1, h2⟩
theorem Vals.set {x : V} {u : Value} (r : RelV x u) : ∀ {xs : List V} {us : List Value} (i : Nat), Vals xs us → Vals (xs.set i x) (us.set i u)
  | _, _, _, .nil => .nil
  | _, _, 0, .cons _ t => .cons r t
  | _, _, i + 1, .cons q t => .cons q (Vals.set r i t)
theorem Vals.append : ∀ {xs ys : List V} {us ws : List Value}, Vals xs us → Vals ys ws → Vals (xs ++ ys) (us ++ ws)
  | _, _, _, _, .nil, s => s
  | _, _, _, _, .cons r t, s => .cons r (Vals.append t s)
theorem Vals.take : ∀ {xs : List V} {us : List Value} (n : Nat), Vals xs us → Vals (xs.take n) (us.take n)
  | _, _, 0, _ => .nil
  | _, _, _ + 1, .nil => .nil
  | _, _, n + 1, .cons r t => .cons r (Vals.take n t)
theorem Vals.drop : ∀ {xs : List V} {us : List Value} (n : Nat), Vals xs us → Vals (xs.drop n) (us.drop n)
  | _, _, 0, r => r
  | _, _, _ + 1, .nil => .nil
  | _, _, n + 1, .cons _ t => Vals.drop n t
theorem Vals.none_of : ∀ {xs : List V} {us : List Value} {i : Nat}, Vals xs us → xs[i]? = none → us[i]? = none := fun {xs us i} r e => by
  have h1 := r.length
  have h2 : xs.length ≤ i := List.getElem?_eq_none_iff.mp e
  exact List.getElem?_eq_none_iff.mpr (by omega)

def RelO : Option V → Option Value → Prop
  | some v, some u => RelV v u
  | none, none => True
  | _, _ => False
def KV {κ : Type} : List (κ × V) → List (κ × Value) → Prop := Paired fun (p : κ × V) (q : κ × Value) => p.1 = q.1 ∧ RelV p.2 q.2

/-- a key of a dict (00_mix): an int or a text -/
def kV : Key → V
  | .inl i => .int i
  | .inr x => .str x

/-- what stands at a tracked address -/
inductive HO where
  /-- a list -/
  | lst (xs : List V)
  /-- a tuple (never changes) -/
  | tup (xs : List V)
  /-- a dict whose keys are ints and texts; one whose keys are tuples of ints and texts (the empty one is both) -/
  | dK (kvs : List (Key × V)) | dT (kvs : List (List Key × V))
  /-- a set of ints: its members, its size -/
  | set (S : Int → Bool) (n : Nat)
  /-- an instance of the class at C, its dict at dx, its attributes -/
  | ins (C dx : Addr) (fs : List (Str × V))
  /-- the dict of the instance at x -/
  | own (x : Addr)
  /-- the dict of an exception -/
  | xd (fs : List (Str × V))
  /-- a bound method, f of x -/
  | met (f x : Addr)
  /-- a range object lo, lo + 1, .. below hi -/
  | rng (lo hi : Int)
  /-- a thing that is known to the object (the script; a dict while a loop walks it): read, never written while it is so -/
  | frz (o : Obj) (u : HO)
  /-- a code object's table -/
  | tbl (ps : Array Value)
  /-- any other thing, by what is true of its one object (a def of one's own: SetO a S n := HO.ext fun h => ..) -/
  | ext (φ : Heap → Prop)

abbrev Hp := Addr → Option HO
def upd (H : Hp) (a : Addr) (o : HO) : Hp := fun b => if b = a then some o else H b
theorem upd_same {H : Hp} {a : Addr} {o : HO} : upd H a o a = some o := by unfold upd; rw [if_pos rfl]
theorem upd_ne {H : Hp} {a b : Addr} {o : HO} (h : b ≠ a) : upd H a o b = H b := by unfold upd; rw [if_neg h]
theorem upd_upd {H : Hp} {a : Addr} {o u : HO} : upd (upd H a o) a u = upd H a u := by
  funext b; unfold upd; split <;> rfl
/-- two objects of different content stand apart -/
theorem ne_of {H : Hp} {a b : Addr} {o u : HO} (h : H a = some o) (h' : H b = some u) (d : o ≠ u) : a ≠ b := by
  intro e; subst e; rw [h] at h'; exact d (Option.some.inj h')
theorem ne_of_none {H : Hp} {a b : Addr} {o : HO} (h : H a = some o) (h' : H b = none) : a ≠ b := by
  intro e; subst e; rw [h] at h'; cases h'

section
variable (P : Program) (w : World)
def ObjOk (H : Hp) (h : Heap) (a : Addr) : HO → Prop
  | .lst xs => xs.length ≤ sizeLine ∧ ∃ (its : List Value) (n : Nat), Vals xs its ∧ h.get? a = some { cls := .type "list", data := .seq its.toArray n }
  | .tup xs => xs.length ≤ sizeLine ∧ ∃ its : List Value, Vals xs its ∧ IsTup h a its.toArray
  | .dK kvs => kvs.length ≤ sizeLine ∧ (a == sysModules) = false ∧ ∃ vs, KV kvs vs ∧ h.DictOf (mixKind P w) a vs
  | .dT kvs => kvs.length ≤ sizeLine ∧ (a == sysModules) = false ∧ ∃ xs : List (List Key × Addr × Value),
      Paired (fun (p : List Key × V) (q : List Key × Addr × Value) => p.1 = q.1 ∧ H q.2.1 = some (.tup (p.1.map kV)) ∧ RelV p.2 q.2.2) kvs xs ∧
      ∃ o es ep, h.get? a = some o ∧ o.ExactDict ∧ o.data = .dict es ep ∧ es.toList = xs.map (entryOfKey (tupleKind (mixKind P w))) ∧ (xs.map (·.1)).Nodup
  | .set S n => h.SetOf (intKind P w) a S n
  | .ins C dx fs => H dx = some (.own a) ∧ fs.length ≤ 1000 ∧ dx ≠ a ∧ h.get? a = some (PySem.W.instObj C dx) ∧
      ∃ mA, h.Ns1 dx mA ∧ (∀ f, RelO (fs.lookup f) (mA f)) ∧ PySem.Within mA (fs.map (·.1))
  | .own _ => ∃ o, h.get? a = some o
  | .xd fs => ∃ mA, h.Ns1 a mA ∧ ∀ f, RelO (fs.lookup f) (mA f)
  | .rng lo hi => ∃ t u v, h.get? a = some { cls := .type "range", data := .fields #[.int lo t, .int hi u, .int 1 v] }
  | .frz o u => h.get? a = some o ∧ ObjOk H h a u
  | .tbl ps => h.get? a = some { cls := .none, data := .fields ps }
  | .met f x => h.get? a = some (PySem.W.methodObj (.ref f) (.ref x))
  | .ext φ => φ h ∧ (∃ o, h.get? a = some o) ∧ ∀ h1 h2 : Heap, φ h1 → (∀ o, h1.get? a = some o → h2.get? a = some o) → φ h2
/-- the abstract heap is held -/
def HOk (H : Hp) (h : Heap) : Prop := ∀ a o, H a = some o → ObjOk P w H h a o
end

section
variable {P : Program} {w : World} {H H' : Hp} {h h' : Heap} {a : Addr} {o : HO}
theorem ObjOk.lt (x : ObjOk P w H h a o) : a < h.objs.size := by
  cases o with
  | lst xs => obtain ⟨_, _, _, _, e⟩ := x; exact Heap.lt_size e
  | tup xs => obtain ⟨_, _, _, p⟩ := x; exact p.lt
  | dK kvs => obtain ⟨_, _, _, _, o, _, _, e, _⟩ := x; exact Heap.lt_size e
  | dT kvs => obtain ⟨_, _, _, _, o, _, _, e, _⟩ := x; exact Heap.lt_size e
  | set S n => obtain ⟨o, _, _, _, e, _⟩ := x; exact Heap.lt_size e
  | ins C dx fs => obtain ⟨_, _, _, e, _⟩ := x; exact Heap.lt_size e
  | own y => obtain ⟨_, e⟩ := x; exact Heap.lt_size e
  | xd fs => obtain ⟨_, ⟨_, _, _, e, _⟩, _⟩ := x; exact Heap.lt_size e
  | rng lo hi => obtain ⟨_, _, _, e⟩ := x; exact Heap.lt_size e
  | frz ob u => obtain ⟨e, _⟩ := x; exact Heap.lt_size e
  | tbl ps => exact Heap.lt_size (show h.get? a = some _ from x)
  | met f y => exact Heap.lt_size (show h.get? a = some _ from x)
  | ext φ => obtain ⟨_, ⟨_, e⟩, _⟩ := x; exact Heap.lt_size e
theorem Paired.mapP {α β : Type} {F G : α → β → Prop} : ∀ {l₁ : List α} {l₂ : List β}, Paired F l₁ l₂ → (∀ a b, F a b → G a b) → Paired G l₁ l₂
  | _, _, .nil, _ => .nil
  | _, _, .cons r t, f => .cons (f _ _ r) (Paired.mapP t f)
theorem Paired.imp' {α β : Type} {F G : α → β → Prop} (f : ∀ a b, F a b → G a b) {l₁ : List α} {l₂ : List β} (r : Paired F l₁ l₂) : Paired G l₁ l₂ := Paired.mapP r f
/-- what an object's description leans on: its own object, its own dict, the tuples -/
theorem ObjOk.stay (x : ObjOk P w H h a o) (k : ∀ b u, (b = a ∨ H b = some (.own a)) → h.get? b = some u → h'.get? b = some u)
    (ho : ∀ b, H b = some (.own a) → H' b = some (.own a)) (ht : ∀ b xs, H b = some (.tup xs) → H' b = some (.tup xs)) : ObjOk P w H' h' a o := by
  induction o with
  | lst xs => obtain ⟨z, its, n, r, e⟩ := x; exact ⟨z, its, n, r, k _ _ (.inl rfl) e⟩
  | tup xs => obtain ⟨z, its, r, ob, e, c⟩ := x; exact ⟨z, its, r, ob, k _ _ (.inl rfl) e, c⟩
  | dK kvs => obtain ⟨z, y, vs, r, ob, es, ep, e, c⟩ := x; exact ⟨z, y, vs, r, ob, es, ep, k _ _ (.inl rfl) e, c⟩
  | dT kvs =>
    obtain ⟨z, y, xs, r, ob, es, ep, e, c⟩ := x
    exact ⟨z, y, xs, Paired.mapP r fun p q z => ⟨z.1, ht _ _ z.2.1, z.2.2⟩, ob, es, ep, k _ _ (.inl rfl) e, c⟩
  | set S n => obtain ⟨ob, es, ep, t, e, c⟩ := x; exact ⟨ob, es, ep, t, k _ _ (.inl rfl) e, c⟩
  | ins C dx fs =>
    obtain ⟨d, z, ne, e, mA, ⟨od, es, ep, e2, c⟩, r⟩ := x
    exact ⟨ho _ d, z, ne, k _ _ (.inl rfl) e, mA, ⟨od, es, ep, k _ _ (.inr d) e2, c⟩, r⟩
  | own y => obtain ⟨ob, e⟩ := x; exact ⟨ob, k _ _ (.inl rfl) e⟩
  | xd fs => obtain ⟨mA, ⟨od, es, ep, e, c⟩, r⟩ := x; exact ⟨mA, ⟨od, es, ep, k _ _ (.inl rfl) e, c⟩, r⟩
  | rng lo hi => obtain ⟨t, u, v, e⟩ := x; exact ⟨t, u, v, k _ _ (.inl rfl) e⟩
  | frz ob u ih => obtain ⟨e, q⟩ := x; exact ⟨k _ _ (.inl rfl) e, ih q⟩
  | tbl ps =>
    have e : h.get? a = some { cls := .none, data := .fields ps } := x
    show h'.get? a = some { cls := .none, data := .fields ps }
    exact k a _ (.inl rfl) e
  | met f y =>
    have e : h.get? a = some (PySem.W.methodObj (.ref f) (.ref y)) := x
    show h'.get? a = some (PySem.W.methodObj (.ref f) (.ref y))
    exact k a _ (.inl rfl) e
  | ext φ => obtain ⟨p, ⟨o, e⟩, st⟩ := x; exact ⟨st _ _ p fun o q => k _ _ (.inl rfl) q, ⟨o, k _ _ (.inl rfl) e⟩, st⟩
theorem HOk.lt (x : HOk P w H h) (e : H a = some o) : a < h.objs.size := (x a o e).lt
theorem HOk.fresh (x : HOk P w H h) (e : h.objs.size ≤ a) : H a = none := by
  cases q : H a with
  | none => rfl
  | some u => exact absurd (Nat.lt_of_lt_of_le (x.lt q) e) (Nat.lt_irrefl _)
/-- every object of the heap is kept -/
theorem HOk.kept (x : HOk P w H h) (k : ∀ b u, h.get? b = some u → h'.get? b = some u) : HOk P w H h' := fun a o e =>
  (x a o e).stay (fun b u _ q => k b u q) (fun _ q => q) fun _ _ q => q
/-- a new object is laid and tracked -/
theorem HOk.laid (x : HOk P w H h) (k : ∀ b u, h.get? b = some u → h'.get? b = some u) (hp : h.objs.size ≤ a) (new : ObjOk P w (upd H a o) h' a o) : HOk P w (upd H a o) h' := fun b u e => by
  have hn := x.fresh hp
  by_cases hb : b = a
  · subst hb; rw [upd_same] at e; cases e; exact new
  · rw [upd_ne hb] at e
    exact (x b u e).stay (fun c v _ q => k c v q) (fun c q => by rw [upd_ne (ne_of_none q hn)]; exact q) fun c xs q => by rw [upd_ne (ne_of_none q hn)]; exact q
end

/-- what may be read as u: it is u, or a known u -/
def Rd (H : Hp) (a : Addr) (u : HO) : Prop := H a = some u ∨ ∃ o, H a = some (.frz o u)
theorem Rd.of {H : Hp} {a : Addr} {u : HO} (h : H a = some u) : Rd H a u := .inl h
theorem Rd.ok {P : Program} {w : World} {H : Hp} {h : Heap} {a : Addr} {u : HO} (r : Rd H a u) (x : HOk P w H h) : ObjOk P w H h a u := by
  rcases r with r | ⟨o, r⟩
  · exact x a u r
  · obtain ⟨_, q⟩ := x a _ r
    exact q
/-- what may be written -/
def Mut : Option HO → Prop
  | some (.lst _) => True
  | some (.dK _) => True
  | some (.dT _) => True
  | some (.set _ _) => True
  | some (.ins _ _ _) => True
  | some (.ext _) => True
  | _ => False
section
variable {P : Program} {w : World} {H : Hp} {h h' : Heap} {x e : Addr} {o' : HO}
/-- the object at e is changed: x itself, or the dict of the instance x -/
theorem HOk.write (ok : HOk P w H h) (mu : Mut (H x)) (he : e = x ∨ H e = some (.own x)) (k : ∀ b u, b ≠ e → h.get? b = some u → h'.get? b = some u) (heo : ∃ u, h'.get? e = some u)
    (new : ObjOk P w (upd H x o') h' x o') : HOk P w (upd H x o') h' := fun b u q => by
  have nown : ∀ c y, H c = some (.own y) → c ≠ x := fun c y r z => by subst z; rw [r] at mu; exact mu
  have ntup : ∀ c xs, H c = some (.tup xs) → c ≠ x := fun c xs r z => by subst z; rw [r] at mu; exact mu
  by_cases hb : b = x
  · subst hb; rw [upd_same] at q; cases q; exact new
  · rw [upd_ne hb] at q
    by_cases hbe : b = e
    · have q' : H b = some (.own x) := by
        rcases he with z | z
        · exact absurd (hbe.trans z) hb
        · rw [hbe]; exact z
      rw [q] at q'; cases q'
      obtain ⟨v, hv⟩ := heo
      exact ⟨v, by rw [hbe]; exact hv⟩
    · refine (ok b u q).stay (fun c v hc r => k c v ?_ r) (fun c r => by rw [upd_ne (nown c b r)]; exact r) fun c xs r => by rw [upd_ne (ntup c xs r)]; exact r
      rcases hc with rfl | hc
      · exact hbe
      · rintro rfl
        rcases he with z | z
        · exact nown c b hc z
        · rw [hc] at z; cases z; exact hb rfl
end

/-! ### kept unless tracked; of the frames at fs (the callers') the slots may change (an exception that passes writes there); of the records at ex (iterators) nothing is said -/
structure Un (fs ex : List Addr) (H H' : Hp) (h h' : Heap) : Prop where
  keep : ∀ b o, h.get? b = some o → H b = none → b ∉ fs → b ∉ ex → h'.get? b = some o
  slot : ∀ b o, h.get? b = some o → H b = none → b ∈ fs → b ∉ ex → ∃ sl, h'.get? b = some { o with slots := sl }
  free : ∀ b o, h.get? b = some o → H b = none → b ∉ ex → H' b = none
  there : ∀ b o, h.get? b = some o → b ∉ ex → ∃ o', h'.get? b = some o'
  tups : ∀ b xs, H b = some (.tup xs) → H' b = some (.tup xs)
  frzs : ∀ b o u, H b = some (.frz o u) → H' b = some (.frz o u)
  tbls : ∀ b ps, H b = some (.tbl ps) → ∃ more, H' b = some (.tbl (ps ++ more))
section
variable {fs fs' ex ex' : List Addr} {H H1 H2 : Hp} {h h1 h2 h' : Heap} {a x e : Addr} {o : HO}
theorem Un.any (u : Un fs ex H H1 h h1) {b : Addr} {ob : Obj} (q : h.get? b = some ob) (n : H b = none) (hx : b ∉ ex) : ∃ sl, h1.get? b = some { ob with slots := sl } := by
  by_cases hb : b ∈ fs
  · exact u.slot b ob q n hb hx
  · exact ⟨ob.slots, u.keep b ob q n hb hx⟩
theorem Un.trans (a : Un fs ex H H1 h h1) (b : Un fs ex H1 H2 h1 h2) : Un fs ex H H2 h h2 where
  keep := fun c ob q n hc hx => b.keep c ob (a.keep c ob q n hc hx) (a.free c ob q n hx) hc hx
  slot := fun c ob q n hc hx => by
    obtain ⟨sl, e1⟩ := a.slot c ob q n hc hx
    obtain ⟨sl', e2⟩ := b.slot c _ e1 (a.free c ob q n hx) hc hx
    exact ⟨sl', e2⟩
  free := fun c ob q n hx => by
    obtain ⟨o', e1⟩ := a.there c ob q hx
    exact b.free c o' e1 (a.free c ob q n hx) hx
  there := fun c ob q hx => by
    obtain ⟨o', e1⟩ := a.there c ob q hx
    exact b.there c o' e1 hx
  tups := fun c xs q => b.tups c xs (a.tups c xs q)
  frzs := fun c ob xs q => b.frzs c ob xs (a.frzs c ob xs q)
  tbls := fun c ps q => by
    obtain ⟨m1, e1⟩ := a.tbls c ps q
    obtain ⟨m2, e2⟩ := b.tbls c _ e1
    exact ⟨m1 ++ m2, by rw [e2, Array.append_assoc]⟩
theorem Un.kept (k : ∀ b u, h.get? b = some u → h'.get? b = some u) : Un fs ex H H h h' :=
  ⟨fun b ob q _ _ _ => k b ob q, fun b ob q _ _ _ => ⟨ob.slots, k b ob q⟩, fun _ _ _ n _ => n, fun b ob q _ => ⟨ob, k b ob q⟩, fun _ _ q => q, fun _ _ _ q => q, fun _ ps q => ⟨#[], by rw [q]; simp⟩⟩
theorem Un.refl : Un fs ex H H h h := Un.kept fun _ _ q => q
theorem Un.laid (k : ∀ b u, h.get? b = some u → h'.get? b = some u) (hp : h.objs.size ≤ a) (hn : H a = none) : Un fs ex H (upd H a o) h h' where
  keep := fun b u q _ _ _ => k b u q
  slot := fun b u q _ _ _ => ⟨u.slots, k b u q⟩
  free := fun b u q n _ => by rw [upd_ne (Nat.ne_of_lt (Nat.lt_of_lt_of_le (Heap.lt_size q) hp))]; exact n
  there := fun b u q _ => ⟨u, k b u q⟩
  tups := fun b xs q => by rw [upd_ne (ne_of_none q hn)]; exact q
  frzs := fun b u xs q => by rw [upd_ne (ne_of_none q hn)]; exact q
  tbls := fun b ps q => ⟨#[], by rw [upd_ne (ne_of_none q hn), q]; simp⟩
theorem Un.write (mu : Mut (H x)) (he : e = x ∨ H e = some (.own x)) (k : ∀ b u, b ≠ e → h.get? b = some u → h'.get? b = some u) (heo : ∃ u, h'.get? e = some u) : Un fs ex H (upd H x o) h h' := by
  have hx : ∀ b, H b = none → b ≠ x := fun b n z => by subst z; rw [n] at mu; exact mu
  have hb : ∀ b, H b = none → b ≠ e := fun b n z => by
    subst z
    rcases he with r | r
    · exact hx b n r
    · rw [n] at r; cases r
  have hm : ∀ b u, H b = some u → ¬ Mut (some u) → b ≠ x := fun b u q nm z => by subst z; rw [q] at mu; exact nm mu
  refine ⟨fun b u q n _ _ => k b u (hb b n) q, fun b u q n _ _ => ⟨u.slots, k b u (hb b n) q⟩, fun b u q n _ => by rw [upd_ne (hx b n)]; exact n, fun b u q _ => ?_,
    fun b xs q => by rw [upd_ne (hm b _ q fun z => z)]; exact q, fun b u xs q => by rw [upd_ne (hm b _ q fun z => z)]; exact q, fun b ps q => ⟨#[], by rw [upd_ne (hm b _ q fun z => z), q]; simp⟩⟩
  by_cases hbe : b = e
  · subst hbe; exact heo
  · exact ⟨u, k b u hbe q⟩
theorem Un.mono (u : Un fs ex H H1 h h1) (hs : ∀ b ∈ fs, b ∈ fs') (hx : ∀ b ∈ ex, b ∈ ex') : Un fs' ex' H H1 h h1 :=
  ⟨fun b ob q n hb he => u.keep b ob q n (fun z => hb (hs b z)) fun z => he (hx b z), fun _ _ q n _ he => u.any q n fun z => he (hx _ z), fun b ob q n he => u.free b ob q n fun z => he (hx b z), fun b ob q he => u.there b ob q fun z => he (hx b z), u.tups, u.frzs, u.tbls⟩
end

/-! ### the heap without what is tracked -/
def trk (h : Heap) (H : Hp) : List Addr := (List.range h.objs.size).filter fun a => (H a).isSome
def hidT (h : Heap) (H : Hp) : Heap := PySem.W.hideAll h (trk h H)
theorem hidT_size (h : Heap) (H : Hp) : (hidT h H).objs.size = h.objs.size := PySem.W.hideAll_size _ _
theorem hidT_get {h : Heap} {H : Hp} {b : Addr} {o : Obj} (e : h.get? b = some o) (n : H b = none) : (hidT h H).get? b = some o :=
  PySem.W.hideAll_get _ e fun hm => by
    have q : (H b).isSome = true := (List.mem_filter.mp hm).2
    rw [n] at q; simp at q
theorem of_hidT {h : Heap} {H : Hp} {b : Addr} {o : Obj} (e : (hidT h H).get? b = some o) : h.get? b = some o ∧ H b = none := by
  have e' : h.get? b = some o := PySem.W.of_hideAll (trk h H) e
  refine ⟨e', ?_⟩
  cases q : H b with
  | none => rfl
  | some x =>
    have hm : b ∈ trk h H := List.mem_filter.mpr ⟨List.mem_range.mpr (Heap.lt_size e'), by simp [q]⟩
    have z : (hidT h H).get? b = none := PySem.W.hideAll_none (trk h H) hm
    rw [z] at e; cases e

/-! ### OpenK's ledger, filled with every new object but one -/
def allNews (g h : Heap) (L : Addr) : List (Addr × Obj) := (List.range h.objs.size).filterMap fun a => if a = L ∨ (g.get? a).isSome = true then none else (h.get? a).map fun o => (a, o)
theorem mem_allNews {g h : Heap} {L a : Addr} {o : Obj} (h1 : a ≠ L) (h2 : g.get? a = none) (h3 : h.get? a = some o) : (a, o) ∈ allNews g h L :=
  List.mem_filterMap.mpr ⟨a, List.mem_range.mpr (Heap.lt_size h3), by simp [h1, h2, h3]⟩
theorem of_mem_allNews {g h : Heap} {L : Addr} {p : Addr × Obj} (hp : p ∈ allNews g h L) : p.1 ≠ L ∧ g.get? p.1 = none ∧ h.get? p.1 = some p.2 := by
  obtain ⟨b, _, e⟩ := List.mem_filterMap.mp hp
  split at e
  · cases e
  · rename_i hn
    cases q : h.get? b with
    | none => rw [q] at e; simp at e
    | some u =>
      rw [q] at e
      simp only [Option.map_some, Option.some.injEq] at e
      subst e
      refine ⟨fun z => hn (.inl z), ?_, q⟩
      show g.get? b = none
      cases r : g.get? b with
      | none => rfl
      | some v => exact (hn (.inr (by simp [r]))).elim
def rest (g h : Heap) (L d : Addr) : List (Addr × Obj) := (allNews g h L).filter fun p => decide (p.1 ≠ d)
theorem rest_ne {g h : Heap} {L d : Addr} : ∀ p ∈ rest g h L d, p.1 ≠ d := fun p hp => of_decide_eq_true (List.mem_filter.mp hp).2
theorem mem_rest {g h : Heap} {L d a : Addr} {o : Obj} (h1 : a ≠ L) (h2 : g.get? a = none) (h3 : h.get? a = some o) (h4 : a ≠ d) : (a, o) ∈ rest g h L d :=
  List.mem_filter.mpr ⟨mem_allNews h1 h2 h3, decide_eq_true h4⟩
theorem news_all {g h : Heap} {L : Addr} : News g L h (allNews g h L) := fun p hp => let ⟨a, b, c⟩ := of_mem_allNews hp; ⟨c, a, b⟩
theorem news_at {g h : Heap} {L d : Addr} {o : Obj} (h1 : d ≠ L) (h2 : g.get? d = none) (h3 : h.get? d = some o) : News g L h ((d, o) :: rest g h L d) := fun p hp => by
  rcases List.mem_cons.mp hp with rfl | hp
  · exact ⟨h3, h1, h2⟩
  · exact news_all p (List.mem_filter.mp hp).1
/-- behind a rule that changed d alone: all else but the frame is kept -/
theorem kept_of_news {g h h' : Heap} {L d : Addr} {m : Str → Option Value} (k : ∀ b o, g.get? b = some o → h.get? b = some o) (F : Fr g L h' m) (N : News g L h' (rest g h L d)) :
    ∀ b o, b ≠ L → b ≠ d → h.get? b = some o → h'.get? b = some o := fun b o h1 h2 e => by
  cases q : g.get? b with
  | some u =>
    have := k b u q
    rw [e] at this; cases this
    exact F.keep b _ q
  | none => exact (N (b, o) (mem_rest h1 q e h2)).1
end L2

namespace L2
open PySem PySem.Spec PyProof.Rows

/-- the module's facts, over the base: the heap at the law's entry without what is tracked there -/
structure Mod (K : PySem.W.Frag) (mg : Str → Option Value) (base : Heap) : Prop where
  kin : K.In base
  glob : base.Ns mainGlobals mg
  blt : ∃ mb, base.Ns builtinsNs mb ∧ ∀ x : Str, x ≠ "__name__" → mb x = bootBuiltins x
  nolimit : base.NoLimit

/-- the context: a def's body (or a comprehension's block) running. base: fixed through the whole law; s₀, H₀: the entry; outer: the frames whose slots others may change (a def's callers); stack: all frames that run;
   ex: iterators that were made ahead of the entry and are walked here (a comprehension's); fn: the names whose cells were made at the entry (a def: all; a comprehension's block: its own); calm: not within an except suite; pn: pins that every state bears; xe: what is wanted of an exception that leaves the code -/
structure Cx where
  prog : Program
  w : World
  K : PySem.W.Frag
  mg : Str → Option Value
  base : Heap
  A : Around
  N : List Str
  s₀ : Shared
  H₀ : Hp
  env : Env
  outer : List Env
  stack : List Env
  ex : List Addr
  fn : Str → Bool
  calm : Bool
  pn : List (Addr × Obj)
  xe : Value → Shared → Prop
/-- the callers' frames -/
def frs (l : List Env) : List Addr := l.filterMap (·.frame)
abbrev Cx.fs (X : Cx) : List Addr := frs X.outer

def Vis (sc : Scope) (x : Str) : Prop := sc.names.lookup x = some .local ∨ sc.names.lookup x = some .cell ∨ sc.names.lookup x = some .free
def Loc (sc : Scope) (x : Str) : Prop := sc.names.lookup x = some .local ∨ sc.names.lookup x = some .cell
def Look (env : Env) (h : Heap) (m : Str → Option Value) (x : Str) (u : Value) : Prop :=
  (env.kindOf x = some .local ∧ m x = some u) ∨ ((env.kindOf x = some .cell ∨ env.kindOf x = some .free) ∧ ∃ c, env.cells.lookup x = some c ∧ h.IsCell c (some u))

structure Cx.Ok (X : Cx) : Prop where
  mod : Mod X.K X.mg X.base
  kind : X.env.scope.kind = .function
  glob : X.env.globals = mainGlobals
  blt : X.env.builtins = builtinsNs
  above : X.s₀.heap.objs.size ≤ X.env.locals
  inj : ∀ x y c, X.env.cells.lookup x = some c → X.env.cells.lookup y = some c → x = y
  has : ∀ x, (X.env.kindOf x = some .cell ∨ X.env.kindOf x = some .free) → ∃ c, X.env.cells.lookup x = some c
  cab : ∀ x c, X.fn x = true → X.env.cells.lookup x = some c → X.s₀.heap.objs.size ≤ c
  hd : X.calm = true → X.A.handled = none
  frames : X.A.frames = some X.stack
  stk : X.stack = X.outer ∨ (X.stack = X.env :: X.outer ∧ X.env.frame = some X.env.locals)
  exf : ∀ b ∈ X.ex, b ≠ X.env.locals ∧ ∀ x c, X.env.cells.lookup x = some c → c ≠ b
  bs : ∀ b o, X.base.get? b = some o → X.s₀.heap.get? b = some o ∧ X.H₀ b = none
  bsz : X.base.objs.size ≤ X.s₀.heap.objs.size
  noex : ∀ b o, X.base.get? b = some o → b ∉ X.ex
  exfs : ∀ b ∈ X.ex, b ∉ X.fs
  funs : X.s₀.heap.FunFrames X.base X.outer
  frf : ∀ b ∈ X.fs, X.H₀ b = none

structure Inv (X : Cx) (pins : List (Addr × Obj)) (σ : List (Option V)) (H : Hp) (s : Shared) : Prop where
  ok : X.Ok
  os : s.os = X.s₀.os
  bare : AllBare s.gens
  base : Un X.fs X.ex X.H₀ H X.s₀.heap s.heap
  loc : ∃ m, s.heap.Ns X.env.locals m ∧ ∀ (i : Nat) (x : Str) (v : V), X.N[i]? = some x → σ[i]? = some (some v) → Vis X.env.scope x → ∃ u, RelV v u ∧ Look X.env s.heap m x u
  cell : ∀ x c, X.env.cells.lookup x = some c → ∃ v, s.heap.IsCell c v
  free : H X.env.locals = none
  freeC : ∀ x c, X.env.cells.lookup x = some c → H c = none
  pin : ∀ p ∈ X.pn ++ pins, s.heap.get? p.1 = some p.2 ∧ H p.1 = none ∧ p.1 ≠ X.env.locals ∧ p.1 ∉ X.fs ∧ ∀ v, p.2.data ≠ .cell v
  hok : HOk X.prog X.w H s.heap
  len : σ.length = X.N.length

section
variable {X : Cx} {pins : List (Addr × Obj)} {σ : List (Option V)} {H H' : Hp} {s : Shared} {h' : Heap}

theorem Cx.Ok.nofr (ok : X.Ok) {b : Addr} {o : Obj} (e : X.base.get? b = some o) : b ∉ X.fs := fun hb => by
  have := (ok.funs.mem hb).1
  rw [e] at this; cases this
theorem Inv.bs (I : Inv X pins σ H s) : ∀ b o, X.base.get? b = some o → s.heap.get? b = some o ∧ H b = none := fun b o e =>
  ⟨I.base.keep b o (I.ok.bs b o e).1 (I.ok.bs b o e).2 (I.ok.nofr e) (I.ok.noex b o e), I.base.free b o (I.ok.bs b o e).1 (I.ok.bs b o e).2 (I.ok.noex b o e)⟩
theorem Inv.bk (I : Inv X pins σ H s) : ∀ b o, X.base.get? b = some o → s.heap.get? b = some o := fun b o e => (I.bs b o e).1
theorem Inv.mod (I : Inv X pins σ H s) : Mod X.K X.mg X.base := I.ok.mod
theorem Inv.kIn (I : Inv X pins σ H s) : X.K.In s.heap := I.ok.mod.kin.keeps I.bk
theorem Inv.nolimit (I : Inv X pins σ H s) : s.heap.NoLimit := I.ok.mod.nolimit.keeps I.bk
/-- the frame over the base: for OpenK's rules (K.In X.base is I.mod.kin) -/
theorem Inv.fr (I : Inv X pins σ H s) : ∃ m, Fr X.base X.env.locals s.heap m :=
  let ⟨m, hn, _⟩ := I.loc
  ⟨m, hn, I.bk, Nat.le_trans I.ok.bsz I.ok.above⟩
theorem Inv.lt (I : Inv X pins σ H s) : X.env.locals < s.heap.objs.size := let ⟨_, hn, _⟩ := I.loc; hn.lt
theorem Inv.sz (I : Inv X pins σ H s) : X.s₀.heap.objs.size ≤ s.heap.objs.size := Nat.le_trans I.ok.above (Nat.le_of_lt I.lt)
theorem Inv.nofs (I : Inv X pins σ H s) {a : Addr} (h : s.heap.objs.size ≤ a) : a ∉ X.fs := fun hb => by
  obtain ⟨_, o, ho, _⟩ := I.ok.funs.mem hb
  exact absurd (Nat.lt_of_lt_of_le (Heap.lt_size ho) (Nat.le_trans I.sz h)) (Nat.lt_irrefl _)
theorem Inv.cne (I : Inv X pins σ H s) : ∀ x c, X.env.cells.lookup x = some c → c ≠ X.env.locals := fun x c e z => by
  obtain ⟨v, o, ho, hd⟩ := I.cell x c e
  obtain ⟨m, ⟨o', es, ep, ho', hd', _⟩, _⟩ := I.loc
  rw [z, ho'] at ho; cases ho; rw [hd'] at hd; cases hd
theorem Inv.funs (I : Inv X pins σ H s) : s.heap.FunFrames X.base X.outer := by
  have all : ∀ (l : List Env), (∀ b ∈ frs l, b ∈ X.fs) → X.s₀.heap.FunFrames X.base l → s.heap.FunFrames X.base l := by
    intro l
    induction l with
    | nil => intro _ _; trivial
    | cons env r ih =>
      intro hs hl
      obtain ⟨hk, ⟨L, o, hf, hn, ho, hd⟩, hr⟩ := hl
      have hL : L ∈ X.fs := hs L (by unfold frs; rw [List.filterMap_cons, hf]; exact List.mem_cons_self)
      obtain ⟨sl, e⟩ := I.base.slot L o ho (I.ok.frf L hL) hL fun z => I.ok.exfs L z hL
      exact ⟨hk, ⟨L, _, hf, hn, e, hd⟩, ih (fun b hb => hs b (by unfold frs; rw [List.filterMap_cons, hf]; exact List.mem_cons_of_mem _ hb)) hr⟩
  exact all X.outer (fun _ hb => hb) I.ok.funs

/-- the frames that run, for a call -/
theorem Inv.stack (I : Inv X pins σ H s) : s.heap.FunFrames X.base X.stack := by
  rcases I.ok.stk with e | ⟨e, hf⟩
  · rw [e]; exact I.funs
  · rw [e]
    obtain ⟨m, hn, _⟩ := I.loc
    refine .cons (by rw [I.ok.kind]; decide) hf hn ?_ I.funs
    exact Heap.get?_none_of_le (Nat.le_trans I.ok.bsz I.ok.above)
theorem Inv.stkSub (I : Inv X pins σ H s) : ∀ b ∈ frs X.stack, b ∈ X.env.locals :: X.fs := fun b hb => by
  rcases I.ok.stk with e | ⟨e, hf⟩
  · rw [e] at hb; exact List.mem_cons_of_mem _ hb
  · rw [e] at hb
    unfold frs at hb
    rw [List.filterMap_cons, hf] at hb
    exact hb
theorem Inv.stkFree (I : Inv X pins σ H s) : ∀ b ∈ frs X.stack, H b = none := fun b hb => by
  rcases List.mem_cons.mp (I.stkSub b hb) with e | hb
  · rw [e]; exact I.free
  · obtain ⟨_, o, ho, _⟩ := I.ok.funs.mem hb
    exact I.base.free b o ho (I.ok.frf b hb) fun z => I.ok.exfs b z hb

/-- THE STEP: the untracked objects but the frame and the records at ch are kept (the callers' frames up to slots), the frame's map is kept, the new abstract heap is held -/
theorem Inv.step {g' : Array GenState} {t' : Nat} {d' : Drawn} {ch : List Addr} (I : Inv X pins σ H s)
    (hch : ∀ b ∈ ch, (b ∈ X.ex ∨ X.s₀.heap.objs.size ≤ b) ∧ b ≠ X.env.locals ∧ (∀ x c, X.env.cells.lookup x = some c → c ≠ b) ∧ ∀ p ∈ X.pn ++ pins, p.1 ≠ b)
    (keep : ∀ b o, b ≠ X.env.locals → b ∉ X.fs → b ∉ ch → s.heap.get? b = some o → H b = none → h'.get? b = some o)
    (slot : ∀ b o, b ≠ X.env.locals → b ∈ X.fs → b ∉ ch → s.heap.get? b = some o → H b = none → ∃ sl, h'.get? b = some { o with slots := sl }) (free : ∀ b o, b ∉ ch → s.heap.get? b = some o → H b = none → H' b = none)
    (there : ∀ b o, b ∉ ch → s.heap.get? b = some o → ∃ o', h'.get? b = some o')
    (tups : ∀ b xs, H b = some (.tup xs) → H' b = some (.tup xs)) (frzs : ∀ b o u, H b = some (.frz o u) → H' b = some (.frz o u)) (tbls : ∀ b ps, H b = some (.tbl ps) → ∃ more, H' b = some (.tbl (ps ++ more)))
    (ns : ∀ m, s.heap.Ns X.env.locals m → h'.Ns X.env.locals m) (hok : HOk X.prog X.w H' h') (hg : AllBare g') :
    Inv X pins σ H' { s with heap := h', gens := g', drawn := d', toks := t' } := by
  have neL : ∀ b o, X.s₀.heap.get? b = some o → b ≠ X.env.locals := fun b o e => Nat.ne_of_lt (Nat.lt_of_lt_of_le (Heap.lt_size e) I.ok.above)
  have neC : ∀ b o, X.s₀.heap.get? b = some o → b ∉ X.ex → b ∉ ch := fun b o e hx hb => by
    rcases (hch b hb).1 with z | z
    · exact hx z
    · exact absurd (Nat.lt_of_lt_of_le (Heap.lt_size e) z) (Nat.lt_irrefl _)
  have cellK : ∀ x c, X.env.cells.lookup x = some c → ∀ v, s.heap.IsCell c v → h'.IsCell c v := fun x c e v ⟨o, ho, hd⟩ => by
    have nch : c ∉ ch := fun z => (hch c z).2.2.1 x c e rfl
    by_cases hc : c ∈ X.fs
    · obtain ⟨sl, q⟩ := slot c o (I.cne x c e) hc nch ho (I.freeC x c e)
      exact ⟨_, q, hd⟩
    · exact ⟨o, keep c o (I.cne x c e) hc nch ho (I.freeC x c e), hd⟩
  refine ⟨I.ok, I.os, hg, ⟨fun b o e n hb hx => ?_, fun b o e n hb hx => ?_, fun b o e n hx => ?_, fun b o e hx => ?_, fun b xs e => tups b xs (I.base.tups b xs e), fun b o xs e => frzs b o xs (I.base.frzs b o xs e), fun b ps e => ?_⟩, ?_, fun x c e => ?_, ?_, fun x c e => ?_, fun p hp => ?_, hok, I.len⟩
  · exact keep b o (neL b o e) hb (neC b o e hx) (I.base.keep b o e n hb hx) (I.base.free b o e n hx)
  · obtain ⟨sl, e1⟩ := I.base.slot b o e n hb hx
    obtain ⟨sl', e2⟩ := slot b _ (neL b o e) hb (neC b o e hx) e1 (I.base.free b o e n hx)
    exact ⟨sl', e2⟩
  · obtain ⟨o', e1⟩ := I.base.there b o e hx
    exact free b o' (neC b o e hx) e1 (I.base.free b o e n hx)
  · obtain ⟨o', e1⟩ := I.base.there b o e hx
    exact there b o' (neC b o e hx) e1
  · obtain ⟨m1, e1⟩ := I.base.tbls b ps e
    obtain ⟨m2, e2⟩ := tbls b _ e1
    exact ⟨m1 ++ m2, by rw [e2, Array.append_assoc]⟩
  · obtain ⟨m, hn, hl⟩ := I.loc
    refine ⟨m, ns m hn, fun i x v e1 e2 e3 => ?_⟩
    obtain ⟨u, r, l⟩ := hl i x v e1 e2 e3
    refine ⟨u, r, ?_⟩
    rcases l with l | ⟨k, c, e, z⟩
    · exact .inl l
    · exact .inr ⟨k, c, e, cellK x c e _ z⟩
  · obtain ⟨v, z⟩ := I.cell x c e
    exact ⟨v, cellK x c e v z⟩
  · obtain ⟨m, ⟨o, _, _, ho, _⟩, _⟩ := I.loc
    exact free _ o (fun z => (hch _ z).2.1 rfl) ho I.free
  · obtain ⟨v, o, ho, hd⟩ := I.cell x c e
    exact free c o (fun z => (hch c z).2.2.1 x c e rfl) ho (I.freeC x c e)
  · obtain ⟨e, n, ne, nf, d⟩ := I.pin p hp
    have nch : p.1 ∉ ch := fun z => (hch p.1 z).2.2.2 p hp rfl
    exact ⟨keep p.1 p.2 ne nf nch e n, free p.1 p.2 nch e n, ne, nf, d⟩
/-- .. where the frame's own object is kept too -/
theorem Inv.un {t' : Nat} (I : Inv X pins σ H s) (u : Un X.fs [] H H' s.heap h') (hok : HOk X.prog X.w H' h') : Inv X pins σ H' { s with heap := h', toks := t' } := by
  obtain ⟨m, ⟨o, es, ep, ho, r⟩, _⟩ := id I.loc
  obtain ⟨sl, hL⟩ := u.any ho I.free (by simp)
  exact I.step (g' := s.gens) (d' := s.drawn) (ch := []) (fun _ z => nomatch z) (fun b o _ hb _ e n => u.keep b o e n hb (by simp)) (fun b o _ hb _ e n => u.slot b o e n hb (by simp)) (fun b o _ e n => u.free b o e n (by simp)) (fun b o _ e => u.there b o e (by simp)) u.tups u.frzs u.tbls (fun m' hm => by
    obtain ⟨o', es', ep', ho', r'⟩ := hm
    rw [ho] at ho'; cases ho'
    exact ⟨_, es', ep', hL, r'⟩) hok I.bare
/-- behind a call (or a comprehension's block): the slots of this frame may have changed too, the records at ch may have turned -/
theorem Inv.call {g' : Array GenState} {t' : Nat} {d' : Drawn} {ch : List Addr} (I : Inv X pins σ H s) (u : Un (frs X.stack) ch H H' s.heap h') (hok : HOk X.prog X.w H' h') (hg : AllBare g')
    (hch : ∀ b ∈ ch, (b ∈ X.ex ∨ X.s₀.heap.objs.size ≤ b) ∧ b ≠ X.env.locals ∧ (∀ x c, X.env.cells.lookup x = some c → c ≠ b) ∧ ∀ p ∈ X.pn ++ pins, p.1 ≠ b) :
    Inv X pins σ H' { s with heap := h', gens := g', drawn := d', toks := t' } := by
  obtain ⟨m, ⟨o, es, ep, ho, r⟩, _⟩ := id I.loc
  obtain ⟨sl, hL⟩ := u.any ho I.free fun z => (hch _ z).2.1 rfl
  exact I.step (ch := ch) hch (fun b o hL hb hc e n => u.keep b o e n (fun z => (List.mem_cons.mp (I.stkSub b z)).elim hL hb) hc) (fun b o _ _ hc e n => u.any e n hc) (fun b o hc e n => u.free b o e n hc) (fun b o hc e => u.there b o e hc) u.tups u.frzs u.tbls (fun m' hm => by
    obtain ⟨o', es', ep', ho', r'⟩ := hm
    rw [ho] at ho'; cases ho'
    exact ⟨_, es', ep', hL, r'⟩) hok hg
/-- an untracked record of ours (an iterator) has turned -/
theorem Inv.turned {t' : Nat} {it : Addr} (I : Inv X pins σ H s) (k : ∀ b o, b ≠ it → s.heap.get? b = some o → h'.get? b = some o) (hn : H it = none) (hL : it ≠ X.env.locals)
    (h1 : it ∈ X.ex ∨ X.s₀.heap.objs.size ≤ it) (h2 : ∀ x c, X.env.cells.lookup x = some c → c ≠ it) (h3 : ∀ p ∈ X.pn ++ pins, p.1 ≠ it) : Inv X pins σ H { s with heap := h', toks := t' } := by
  have nit : ∀ b u, H b = some u → b ≠ it := fun b u e z => by rw [z, hn] at e; cases e
  refine I.step (g' := s.gens) (d' := s.drawn) (ch := [it]) (fun b hb => ?_) (fun b o _ _ hc e _ => k b o (fun z => hc (by simp [z])) e) (fun b o _ _ hc e _ => ⟨o.slots, k b o (fun z => hc (by simp [z])) e⟩) (fun _ _ _ _ n => n)
    (fun b o hc e => ⟨o, k b o (fun z => hc (by simp [z])) e⟩) (fun _ _ e => e) (fun _ _ _ e => e) (fun b ps e => ⟨#[], by rw [e]; simp⟩) (fun m hm => ?_) (fun b u e => ?_) I.bare
  · have e : b = it := by simpa using hb
    subst e
    exact ⟨h1, hL, h2, h3⟩
  · obtain ⟨o, es, ep, ho, r⟩ := hm
    exact ⟨o, es, ep, k _ o (Ne.symm hL) ho, r⟩
  · refine (I.hok b u e).stay (fun c v hc q => k c v ?_ q) (fun _ q => q) fun _ _ q => q
    rcases hc with z | z
    · rw [z]; exact nit b u e
    · exact nit c _ z
theorem Inv.tok (I : Inv X pins σ H s) (t : Nat) : Inv X pins σ H { s with toks := t } := I.un (h' := s.heap) (t' := t) Un.refl I.hok
/-- all objects kept -/
theorem Inv.kept {t' : Nat} (I : Inv X pins σ H s) (k : ∀ b u, s.heap.get? b = some u → h'.get? b = some u) : Inv X pins σ H { s with heap := h', toks := t' } := I.un (Un.kept k) (I.hok.kept k)
/-- a new object laid and tracked -/
theorem Inv.laid {a : Addr} {o : HO} {t' : Nat} (I : Inv X pins σ H s) (k : ∀ b u, s.heap.get? b = some u → h'.get? b = some u) (hp : s.heap.objs.size ≤ a) (new : ObjOk X.prog X.w (upd H a o) h' a o) :
    Inv X pins σ (upd H a o) { s with heap := h', toks := t' } := I.un (Un.laid k hp (I.hok.fresh hp)) (I.hok.laid k hp new)
/-- an object written -/
theorem Inv.write {x e : Addr} {o : HO} {t' : Nat} (I : Inv X pins σ H s) (mu : Mut (H x)) (he : e = x ∨ H e = some (.own x)) (k : ∀ b u, b ≠ e → s.heap.get? b = some u → h'.get? b = some u) (heo : ∃ u, h'.get? e = some u)
    (new : ObjOk X.prog X.w (upd H x o) h' x o) : Inv X pins σ (upd H x o) { s with heap := h', toks := t' } := I.un (Un.write mu he k heo) (I.hok.write mu he k heo new)
/-- forgetting slots, pins -/
theorem Inv.weak {σ' : List (Option V)} (I : Inv X pins σ H s) (hl : σ'.length = σ.length) (w : ∀ (i : Nat) v, σ'[i]? = some (some v) → σ[i]? = some (some v)) : Inv X pins σ' H s :=
  ⟨I.ok, I.os, I.bare, I.base, let ⟨m, hn, hl'⟩ := I.loc; ⟨m, hn, fun i x v e1 e2 e3 => hl' i x v e1 (w i v e2) e3⟩, I.cell, I.free, I.freeC, I.pin, I.hok, hl.trans I.len⟩
theorem Inv.pins_of {pins' : List (Addr × Obj)} (I : Inv X pins σ H s) (h : ∀ p ∈ pins', s.heap.get? p.1 = some p.2 ∧ H p.1 = none ∧ p.1 ≠ X.env.locals ∧ p.1 ∉ X.fs ∧ ∀ v, p.2.data ≠ .cell v) : Inv X pins' σ H s :=
  ⟨I.ok, I.os, I.bare, I.base, I.loc, I.cell, I.free, I.freeC, fun p hp => (List.mem_append.mp hp).elim (fun z => I.pin p (List.mem_append_left _ z)) (h p), I.hok, I.len⟩

theorem nodup_ix {N : List Str} (hN : N.Nodup) {i j : Nat} {x : Str} (a : N[i]? = some x) (b : N[j]? = some x) : i = j := by
  obtain ⟨h1, e1⟩ := List.getElem?_eq_some_iff.mp a
  obtain ⟨h2, e2⟩ := List.getElem?_eq_some_iff.mp b
  exact (List.getElem_inj hN).mp (e1.trans e2.symm)

/-- a name is stored; what changed -/
theorem store_ok2 {M : Model} {A : Around} {E : Value → Shared → Prop} {i : Nat} {x : Str} {v : V} {u : Value} {Q : Unit → Shared → Prop} (I : Inv X pins σ H s) (hN : X.N.Nodup) (hi : X.N[i]? = some x) (hx : Loc X.env.scope x) (r : RelV v u)
    (h : ∀ s', Inv X pins (σ.set i (some v)) H s' → (∃ a, Heap.SameBut a s.heap s'.heap ∧ (a = X.env.locals ∨ X.env.cells.lookup x = some a)) → Q () s') (hf : X.fn x = true ∨ X.env.scope.names.lookup x = some .local := by first | exact .inl rfl | exact .inr rfl | assumption) : wpAny M A (storeName X.env x u) Q E s := by
  obtain ⟨m, hn, hl⟩ := id I.loc
  have hcls : (X.env.scope.kind == .class || (X.env.scope.kind == .module && X.env.locals != X.env.globals)) = false := by rw [I.ok.kind]; rfl
  have hiσ : i < σ.length := by rw [I.len]; exact (List.getElem?_eq_some_iff.mp hi).1
  have cne := I.cne
  have tracked : ∀ {a : Addr} {h' : Heap}, (∃ o, s.heap.get? a = some o ∧ H a = none) → Heap.SameBut a s.heap h' → HOk X.prog X.w H h' := fun {a h'} ha hs b ob e => by
    obtain ⟨_, _, hfree⟩ := ha
    refine (I.hok b ob e).stay (fun c w' hc q => (hs.2 c ?_).trans q) (fun _ q => q) fun _ _ q => q
    rintro rfl
    rcases hc with rfl | hc
    · rw [hfree] at e; cases e
    · rw [hfree] at hc; cases hc
  rcases hx with hk | hk
  · refine wpAny_storeName_local hk hn (fun h' hn' hs => ?_) hcls
    obtain ⟨oL, _, _, hoL, _⟩ := id hn
    refine h _ ⟨I.ok, I.os, I.bare, ⟨fun b o e n hb hx => ?_, fun b o e n hb hx => ?_, I.base.free, fun b o e hx => ?_, I.base.tups, I.base.frzs, I.base.tbls⟩, ⟨_, hn', fun j y v' e1 e2 e3 => ?_⟩, fun y c e => ?_, I.free, I.freeC, fun p hp => ?_, tracked ⟨oL, hoL, I.free⟩ hs, by simpa using I.len⟩ ⟨_, hs, .inl rfl⟩
    · exact (hs.2 b (Nat.ne_of_lt (Nat.lt_of_lt_of_le (Heap.lt_size e) I.ok.above))).trans (I.base.keep b o e n hb hx)
    · obtain ⟨sl, e1⟩ := I.base.slot b o e n hb hx
      exact ⟨sl, (hs.2 b (Nat.ne_of_lt (Nat.lt_of_lt_of_le (Heap.lt_size e) I.ok.above))).trans e1⟩
    · obtain ⟨o', e1⟩ := I.base.there b o e hx
      exact ⟨o', (hs.2 b (Nat.ne_of_lt (Nat.lt_of_lt_of_le (Heap.lt_size e) I.ok.above))).trans e1⟩
    · by_cases hj : j = i
      · subst hj
        rw [hi] at e1; cases e1
        rw [List.getElem?_set_self hiσ] at e2
        cases e2
        exact ⟨u, r, .inl ⟨hk, by simp⟩⟩
      · rw [List.getElem?_set_ne (Ne.symm hj)] at e2
        obtain ⟨u', r', q⟩ := hl j y v' e1 e2 e3
        refine ⟨u', r', ?_⟩
        rcases q with ⟨k, e⟩ | ⟨k, c, e, z⟩
        · refine .inl ⟨k, ?_⟩
          have : y ≠ x := fun e => hj (nodup_ix hN e1 (e ▸ hi))
          simp [this, e]
        · exact .inr ⟨k, c, e, z.sameBut hs (cne y c e)⟩
    · obtain ⟨w', z⟩ := I.cell y c e
      exact ⟨w', z.sameBut hs (cne y c e)⟩
    · obtain ⟨e, n, ne, nf, d⟩ := I.pin p hp
      exact ⟨(hs.2 p.1 ne).trans e, n, ne, nf, d⟩
  · have hfn : X.fn x = true := by
      rcases hf with z | z
      · exact z
      · rw [z] at hk; cases hk
    obtain ⟨c, hc⟩ := I.ok.has x (.inl hk)
    obtain ⟨w', z⟩ := I.cell x c hc
    refine wpAny_storeName_cell I.ok.kind hk hc z (fun h' hc' hs => ?_)
    obtain ⟨oc, hoc, hocd⟩ := id z
    refine h { s with heap := h' } ⟨I.ok, I.os, I.bare, ⟨fun b o e n hb hx => ?_, fun b o e n hb hx => ?_, I.base.free, fun b o e hx => ?_, I.base.tups, I.base.frzs, I.base.tbls⟩, ⟨m, hn.sameBut hs (Ne.symm (cne x c hc)), fun j y v' e1 e2 e3 => ?_⟩, fun y c' e => ?_, I.free, I.freeC, fun p hp => ?_, tracked ⟨oc, hoc, I.freeC x c hc⟩ hs, by simpa using I.len⟩ ⟨c, hs, .inr hc⟩
    · exact (hs.2 b (Nat.ne_of_lt (Nat.lt_of_lt_of_le (Heap.lt_size e) (I.ok.cab x c hfn hc)))).trans (I.base.keep b o e n hb hx)
    · obtain ⟨sl, e1⟩ := I.base.slot b o e n hb hx
      exact ⟨sl, (hs.2 b (Nat.ne_of_lt (Nat.lt_of_lt_of_le (Heap.lt_size e) (I.ok.cab x c hfn hc)))).trans e1⟩
    · obtain ⟨o', e1⟩ := I.base.there b o e hx
      exact ⟨o', (hs.2 b (Nat.ne_of_lt (Nat.lt_of_lt_of_le (Heap.lt_size e) (I.ok.cab x c hfn hc)))).trans e1⟩
    · by_cases hj : j = i
      · subst hj
        rw [hi] at e1; cases e1
        rw [List.getElem?_set_self hiσ] at e2
        cases e2
        exact ⟨u, r, .inr ⟨.inl hk, c, hc, hc'⟩⟩
      · rw [List.getElem?_set_ne (Ne.symm hj)] at e2
        obtain ⟨u', r', q⟩ := hl j y v' e1 e2 e3
        refine ⟨u', r', ?_⟩
        rcases q with q | ⟨k, c', e, z'⟩
        · exact .inl q
        · refine .inr ⟨k, c', e, z'.sameBut hs ?_⟩
          rintro rfl
          exact hj (nodup_ix hN e1 (I.ok.inj _ _ _ e hc ▸ hi))
    · by_cases hcc : c' = c
      · subst hcc; exact ⟨_, hc'⟩
      · obtain ⟨w2, z2⟩ := I.cell y c' e
        exact ⟨w2, z2.sameBut hs hcc⟩
    · obtain ⟨e, n, ne, nf, d⟩ := I.pin p hp
      refine ⟨(hs.2 p.1 ?_).trans e, n, ne, nf, d⟩
      intro q
      rw [q, hoc] at e
      have q' : oc = p.2 := Option.some.inj e
      exact d w' (by rw [← q']; exact hocd)
theorem store_ok {M : Model} {A : Around} {E : Value → Shared → Prop} {i : Nat} {x : Str} {v : V} {u : Value} {Q : Unit → Shared → Prop} (I : Inv X pins σ H s) (hN : X.N.Nodup) (hi : X.N[i]? = some x) (hx : Loc X.env.scope x) (r : RelV v u)
    (h : ∀ s', Inv X pins (σ.set i (some v)) H s' → Q () s') (hf : X.fn x = true ∨ X.env.scope.names.lookup x = some .local := by first | exact .inl rfl | exact .inr rfl | assumption) : wpAny M A (storeName X.env x u) Q E s :=
  store_ok2 I hN hi hx r (fun s' I' _ => h s' I') hf
/-- behind a call or a block, the state as it is -/
theorem Inv.call' {s' : Shared} {ch : List Addr} (I : Inv X pins σ H s) (ho : s'.os = s.os) (u : Un (frs X.stack) ch H H' s.heap s'.heap) (hok : HOk X.prog X.w H' s'.heap) (hg : AllBare s'.gens)
    (hch : ∀ b ∈ ch, (b ∈ X.ex ∨ X.s₀.heap.objs.size ≤ b) ∧ b ≠ X.env.locals ∧ (∀ x c, X.env.cells.lookup x = some c → c ≠ b) ∧ ∀ p ∈ X.pn ++ pins, p.1 ≠ b) : Inv X pins σ H' s' := by
  obtain ⟨h', g', d', t', o'⟩ := s'
  have e : o' = s.os := ho
  subst e
  exact I.call (g' := g') (t' := t') (d' := d') u hok hg hch
end

/-! ### the judgements -/
/-- an exception: its class, its own dict's address (where it has one), the abstract heap behind it -/
abbrev XK := Value → Option Addr → Hp → Prop
abbrev St := List (Option V)
abbrev VK := V → Hp → Prop
/-- an expression's reading; a test's; an argument list's -/
abbrev TE := St → Hp → VK → Prop
abbrev TT := St → Hp → (Bool → Hp → Prop) → Prop
abbrev TA := St → Hp → (List V → Hp → Prop) → Prop
/-- what is wanted behind a statement -/
structure Ends where
  nx : St → Hp → Prop
  rt : VK
  bk : St → Hp → Prop := fun _ _ => False
  ct : St → Hp → Prop := fun _ _ => False
abbrev TS := Ends → St → Hp → Prop

def EP (X : Cx) (pins : List (Addr × Obj)) (σ : St) (Q : VK) (u : Value) (s' : Shared) : Prop := ∃ v H', Inv X pins σ H' s' ∧ RelV v u ∧ Q v H'
def TP (X : Cx) (pins : List (Addr × Obj)) (σ : St) (Q : Bool → Hp → Prop) (b : Bool) (s' : Shared) : Prop := ∃ H', Inv X pins σ H' s' ∧ Q b H'
def AP (X : Cx) (pins : List (Addr × Obj)) (σ : St) (Q : List V → Hp → Prop) (us : List Value) (s' : Shared) : Prop := ∃ vs H', Inv X pins σ H' s' ∧ Vals vs us ∧ Q vs H'
def SP (X : Cx) (pins : List (Addr × Obj)) (D : Ends) (f : Flow) (s' : Shared) : Prop :=
  match f with
  | .next => ∃ σ' H', Inv X pins σ' H' s' ∧ D.nx σ' H'
  | .brk => ∃ σ' H', Inv X pins σ' H' s' ∧ D.bk σ' H'
  | .cont => ∃ σ' H', Inv X pins σ' H' s' ∧ D.ct σ' H'
  | .ret u => ∃ v σ' H', Inv X pins σ' H' s' ∧ RelV v u ∧ D.rt v H'

def PE (X : Cx) (e : Expr) (t : TE) : Prop :=
  ∀ (pins : List (Addr × Obj)) (s : Shared) (σ : St) (H : Hp) (Q : VK), Inv X pins σ H s → t σ H Q → wpAny (model X.prog X.w) X.A (eval e X.env) (EP X pins σ Q) X.xe s
def PT (X : Cx) (e : Expr) (t : TT) : Prop :=
  ∀ (pins : List (Addr × Obj)) (s : Shared) (σ : St) (H : Hp) (Q : Bool → Hp → Prop), Inv X pins σ H s → t σ H Q → wpAny (model X.prog X.w) X.A (isTrue e X.env (eval e X.env)) (TP X pins σ Q) X.xe s
/-- a test whatever its 'whole' is (and, or) -/
def PW (X : Cx) (e : Expr) (t : TT) : Prop :=
  ∀ (whole : Sem Value) (pins : List (Addr × Obj)) (s : Shared) (σ : St) (H : Hp) (Q : Bool → Hp → Prop), Inv X pins σ H s → t σ H Q → wpAny (model X.prog X.w) X.A (isTrue e X.env whole) (TP X pins σ Q) X.xe s
theorem PW.pt {X : Cx} {e : Expr} {t : TT} (h : PW X e t) : PT X e t := h _
/-- an argument list (no star), from the left -/
def PA (X : Cx) (es : List Expr) (t : TA) : Prop :=
  ∀ (pos : Pos) (pins : List (Addr × Obj)) (s : Shared) (σ : St) (H : Hp) (Q : List V → Hp → Prop), Inv X pins σ H s → t σ H Q → wpAny (model X.prog X.w) X.A (spliced (backTo pos (starEach es X.env))) (AP X pins σ Q) X.xe s
def PS (X : Cx) (st : Stmt) (t : TS) : Prop :=
  ∀ (pins : List (Addr × Obj)) (s : Shared) (σ : St) (H : Hp) (D : Ends), Inv X pins σ H s → t D σ H → wpAny (model X.prog X.w) X.A (exec st X.env) (SP X pins D) X.xe s
def PSs (X : Cx) (st : List Stmt) (t : TS) : Prop :=
  ∀ (pins : List (Addr × Obj)) (s : Shared) (σ : St) (H : Hp) (D : Ends), Inv X pins σ H s → t D σ H → wpAny (model X.prog X.w) X.A (execs st X.env) (SP X pins D) X.xe s
/-- weaken the end -/
theorem thn {α : Type} {t : Sem α} {Q Q' : α → Shared → Prop} {M : Model} {A : Around} {E : Value → Shared → Prop} {s : Shared} (h : wpAny M A t Q E s) (hQ : ∀ a s, Q a s → Q' a s) : wpAny M A t Q' E s := wpAny_mono h hQ fun _ _ x => x
end L2

namespace L2
open PySem PySem.Spec PyProof.Rows
section
variable {X : Cx}

/-- two expressions in a row -/
theorem bin {a b : Expr} {ta tb : TE} (ha : PE X a ta) (hb : PE X b tb) {pins : List (Addr × Obj)} {s : Shared} {σ : St} {H : Hp} {R : V → V → Hp → Prop} (I : Inv X pins σ H s) (h : ta σ H fun x H1 => tb σ H1 fun y H2 => R x y H2)
    {α : Type} {Q : α → Shared → Prop} {f : Value → Value → Sem α}
    (hf : ∀ v u s2 x y H2, Inv X pins σ H2 s2 → RelV x v → RelV y u → R x y H2 → wpAny (model X.prog X.w) X.A (f v u) Q X.xe s2) :
    wpAny (model X.prog X.w) X.A (eval a X.env) (fun v s₁ => wpAny (model X.prog X.w) X.A (eval b X.env) (fun u s₂ => wpAny (model X.prog X.w) X.A (f v u) Q X.xe s₂) X.xe s₁) X.xe s := by
  refine thn (ha pins s σ H _ I h) fun v s1 ⟨x, H1, I1, r1, q1⟩ => ?_
  refine thn (hb pins s1 σ H1 _ I1 q1) fun u s2 ⟨y, H2, I2, r2, q2⟩ => ?_
  exact hf v u s2 x y H2 I2 r1 r2 q2

/-! ### names and constants -/
def tVar (i : Nat) : TE := fun σ H Q => ∃ v, σ[i]? = some (some v) ∧ Q v H
def tC (v : V) : TE := fun _ H Q => Q v H
theorem pe_var {i : Nat} {x : Str} {pos : Pos} (hN : X.N[i]? = some x) (hv : Vis X.env.scope x) (hd : (x == ("__debug__" : Str)) = false := by decide) (hcd : (x == ("__classdict__" : Str)) = false := by decide) : PE X (.Name x pos) (tVar i) := by
  intro pins s σ H Q I h
  obtain ⟨v, e, h⟩ := h
  obtain ⟨m, hn, hl⟩ := I.loc
  obtain ⟨u, r, l⟩ := hl i x v hN e hv
  have fin : EP X pins σ Q u s := ⟨v, H, I, r, h⟩
  rcases l with ⟨hk, hm⟩ | ⟨hk, c, hc, hcell⟩
  · exact wpAny_Name (wpAny_loadName_local I.ok.kind hk hn hm fin) hd
  · rcases hk with hk | hk
    · exact wpAny_Name (wpAny_loadName_cell I.ok.kind hk hc hcell fin) hd
    · exact wpAny_Name (wpAny_loadName_free I.ok.kind hk hc hcell fin hcd) hd
theorem pe_int {i j pos} : PE X (.Constant (.int i) j pos) (tC (.int i)) := fun _ _ _ H _ I h => wpAny_Constant_int ⟨.int i, H, I.tok _, ⟨_, rfl⟩, h⟩
theorem pe_bl {b j pos} : PE X (.Constant (.bool b) j pos) (tC (.bl b)) := fun _ _ _ H _ I h => Constant_bool ⟨.bl b, H, I, rfl, h⟩
theorem pe_non {j pos} : PE X (.Constant .none j pos) (tC .non) := fun _ _ _ H _ I h => Constant_none ⟨.non, H, I, rfl, h⟩
theorem pe_str {x j pos} : PE X (.Constant (.str x) j pos) (tC (.str x)) := fun _ _ _ H _ I h => Calls.Constant_str ⟨.str x, H, I.tok _, ⟨_, rfl⟩, h⟩

/-- a global name of the def -/
def Gl (X : Cx) (x : Str) : Prop := X.env.kindOf x = some .globalImplicit
theorem ld_glob {E : Value → Shared → Prop} {pins : List (Addr × Obj)} {s : Shared} {σ : St} {H : Hp} {x : Str} {u : Value} {pos : Pos} {Q : Value → Shared → Prop} (I : Inv X pins σ H s) (hg : Gl X x) (hm : X.mg x = some u) (h : Q u s)
    (hd : (x == ("__debug__" : Str)) = false := by decide) : wpAny (model X.prog X.w) X.A (eval (.Name x pos) X.env) Q E s :=
  Calls.Name_function_global I.ok.kind hg (Calls.loadGlobal_global (by rw [I.ok.glob]; exact I.mod.glob.keeps I.bk) hm h) hd
theorem ld_blt {E : Value → Shared → Prop} {pins : List (Addr × Obj)} {s : Shared} {σ : St} {H : Hp} {x : Str} {u : Value} {pos : Pos} {Q : Value → Shared → Prop} (I : Inv X pins σ H s) (hg : Gl X x) (hm : X.mg x = none) (hv : bootBuiltins x = some u) (h : Q u s)
    (hn : x ≠ "__name__" := by decide) (hd : (x == ("__debug__" : Str)) = false := by decide) : wpAny (model X.prog X.w) X.A (eval (.Name x pos) X.env) Q E s := by
  obtain ⟨mb, h1, h2⟩ := I.mod.blt
  exact Calls.Name_function_global I.ok.kind hg (Calls.loadGlobal_builtin (by rw [I.ok.glob]; exact I.mod.glob.keeps I.bk) hm (by rw [I.ok.blt]; exact h1.keeps I.bk) ((h2 x hn).trans hv) h) hd
/-- a module's constant, a class, a function, as a value -/
theorem pe_glob {x : Str} {v : V} {u : Value} {pos : Pos} (hg : Gl X x) (hm : X.mg x = some u) (r : RelV v u) (hd : (x == ("__debug__" : Str)) = false := by decide) : PE X (.Name x pos) (tC v) :=
  fun _ _ _ H _ I h => ld_glob I hg hm ⟨v, H, I, r, h⟩ hd
theorem pe_bltn {x : Str} {v : V} {u : Value} {pos : Pos} (hg : Gl X x) (hm : X.mg x = none) (hv : bootBuiltins x = some u) (r : RelV v u) (hn : x ≠ "__name__" := by decide) (hd : (x == ("__debug__" : Str)) = false := by decide) : PE X (.Name x pos) (tC v) :=
  fun _ _ _ H _ I h => ld_blt I hg hm hv ⟨v, H, I, r, h⟩ hn hd

/-! ### arithmetic -/
/-- two ints -/
def t2I (ta tb : TE) (k : Int → Int → Hp → Prop) : St → Hp → Prop := fun σ H => ta σ H fun x H1 => tb σ H1 fun y H2 => ∃ i j, x = .int i ∧ y = .int j ∧ k i j H2
def tAdd (ta tb : TE) : TE := fun σ H Q => t2I ta tb (fun i j H2 => Q (.int (i + j)) H2) σ H
def tSub (ta tb : TE) : TE := fun σ H Q => t2I ta tb (fun i j H2 => Q (.int (i - j)) H2) σ H
/-- the left factor below 2^64 -/
def tMul (ta tb : TE) : TE := fun σ H Q => t2I ta tb (fun i j H2 => (-(2 ^ 64) < i ∧ i < 2 ^ 64) ∧ Q (.int (i * j)) H2) σ H
variable {a b : Expr} {ta tb : TE} {pos : Pos}
theorem pe_add (ha : PE X a ta) (hb : PE X b tb) : PE X (.BinOp a .Add b pos) (tAdd ta tb) := by
  intro pins s σ H Q I h
  refine wpAny_BinOp (bin ha hb I h fun v u s2 x y H2 I2 rx ry q => ?_)
  obtain ⟨i, j, rfl, rfl, q⟩ := q
  obtain ⟨t, rfl⟩ := rx
  obtain ⟨t', rfl⟩ := ry
  exact add_int ⟨.int _, H2, I2.tok _, ⟨_, rfl⟩, q⟩
theorem pe_sub (ha : PE X a ta) (hb : PE X b tb) : PE X (.BinOp a .Sub b pos) (tSub ta tb) := by
  intro pins s σ H Q I h
  refine wpAny_BinOp (bin ha hb I h fun v u s2 x y H2 I2 rx ry q => ?_)
  obtain ⟨i, j, rfl, rfl, q⟩ := q
  obtain ⟨t, rfl⟩ := rx
  obtain ⟨t', rfl⟩ := ry
  exact sub_int ⟨.int _, H2, I2.tok _, ⟨_, rfl⟩, q⟩
theorem pe_mul (ha : PE X a ta) (hb : PE X b tb) : PE X (.BinOp a .Mult b pos) (tMul ta tb) := by
  intro pins s σ H Q I h
  refine wpAny_BinOp (bin ha hb I h fun v u s2 x y H2 I2 rx ry q => ?_)
  obtain ⟨i, j, rfl, rfl, ⟨q1, q2⟩, q⟩ := q
  obtain ⟨t, rfl⟩ := rx
  obtain ⟨t', rfl⟩ := ry
  exact mul_int ⟨.int _, H2, I2.tok _, ⟨_, rfl⟩, q⟩ (.of_left (intBits_le_64 q1 q2))

/-! ### comparisons -/
def PC (X : Cx) (op : CmpOp) (a b : Expr) (t : TE) : Prop :=
  ∀ (pins : List (Addr × Obj)) (s : Shared) (σ : St) (H : Hp) (Q : VK), Inv X pins σ H s → t σ H Q →
    wpAny (model X.prog X.w) X.A (eval a X.env) (fun v s₁ => wpAny (model X.prog X.w) X.A (eval b X.env) (fun u s₂ => wpAny (model X.prog X.w) X.A (compareOp op v u) (EP X pins σ Q) X.xe s₂) X.xe s₁) X.xe s
theorem nobehind (b : Expr) {op : CmpOp} (h : op ≠ .In) (h2 : op ≠ .NotIn) : behindInMarks op b = false := by
  have e1 : (op == CmpOp.In) = false := by cases op <;> first | rfl | exact absurd rfl h
  have e2 : (op == CmpOp.NotIn) = false := by cases op <;> first | rfl | exact absurd rfl h2
  cases b <;> simp [behindInMarks, e1, e2]
def tCmp (p : Int → Int → Bool) (ta tb : TE) : TE := fun σ H Q => t2I ta tb (fun i j H2 => Q (.bl (p i j)) H2) σ H
abbrev tLt : TE → TE → TE := tCmp fun i j => decide (i < j)
abbrev tLe : TE → TE → TE := tCmp fun i j => decide (i ≤ j)
abbrev tGt : TE → TE → TE := tCmp fun i j => decide (j < i)
abbrev tGe : TE → TE → TE := tCmp fun i j => decide (j ≤ i)
abbrev tEqI : TE → TE → TE := tCmp fun i j => decide (i = j)
abbrev tNeI : TE → TE → TE := tCmp fun i j => !decide (i = j)
/-- a comparison of two ints, by its rule -/
theorem pc_int {op : CmpOp} {p : Int → Int → Bool} (ha : PE X a ta) (hb : PE X b tb)
    (rule : ∀ (i j : Int) (t u : Tok) (Q : Value → Shared → Prop) (s : Shared), Q (.bool (p i j)) s → wpAny (model X.prog X.w) X.A (compareOp op (.int i t) (.int j u)) Q X.xe s) : PC X op a b (tCmp p ta tb) := by
  intro pins s σ H Q I h
  refine bin ha hb I h fun v u s2 x y H2 I2 rx ry q => ?_
  obtain ⟨i, j, rfl, rfl, q⟩ := q
  obtain ⟨t, rfl⟩ := rx
  obtain ⟨t', rfl⟩ := ry
  exact rule i j t t' _ s2 ⟨.bl _, H2, I2, rfl, q⟩
theorem pc_lt (ha : PE X a ta) (hb : PE X b tb) : PC X .Lt a b (tLt ta tb) := pc_int ha hb fun _ _ _ _ _ _ h => lt_int h
theorem pc_le (ha : PE X a ta) (hb : PE X b tb) : PC X .LtE a b (tLe ta tb) := pc_int ha hb fun _ _ _ _ _ _ h => le_int h
theorem pc_gt (ha : PE X a ta) (hb : PE X b tb) : PC X .Gt a b (tGt ta tb) := pc_int ha hb fun _ _ _ _ _ _ h => gt_int h
theorem pc_ge (ha : PE X a ta) (hb : PE X b tb) : PC X .GtE a b (tGe ta tb) := pc_int ha hb fun _ _ _ _ _ _ h => ge_int h
theorem pc_eqI (ha : PE X a ta) (hb : PE X b tb) : PC X .Eq a b (tEqI ta tb) := pc_int ha hb fun _ _ _ _ _ _ h => eq_int (by rw [Bool.beq_eq_decide_eq]; exact h)
theorem pc_neI (ha : PE X a ta) (hb : PE X b tb) : PC X .NotEq a b (tNeI ta tb) := pc_int ha hb fun _ _ _ _ _ _ h => ne_int (by rw [bne, Bool.beq_eq_decide_eq]; exact h)
/-- is None -/
def tIsN (ta : TE) : TE := fun σ H Q => ta σ H fun x H1 => Q (.bl (decide (x = .non))) H1
def tNotN (ta : TE) : TE := fun σ H Q => ta σ H fun x H1 => Q (.bl (!decide (x = .non))) H1
theorem RelV.none_iff {x : V} {v : Value} (r : RelV x v) : (v == Value.none) = decide (x = .non) := by
  cases x with
  | non => cases r; rfl
  | bl _ => cases r; rfl
  | int _ => obtain ⟨t, rfl⟩ := r; rfl
  | str _ => obtain ⟨t, rfl⟩ := r; rfl
  | byt _ => obtain ⟨t, rfl⟩ := r; rfl
  | flt _ => obtain ⟨t, rfl⟩ := r; rfl
  | ref _ => cases r; rfl
  | ty _ => cases r; rfl
theorem pc_isN {j pos'} (ha : PE X a ta) : PC X .Is a (.Constant .none j pos') (tIsN ta) := by
  intro pins s σ H Q I h
  refine thn (ha pins s σ H _ I h) fun v s1 ⟨x, H1, I1, r1, q1⟩ => ?_
  exact Constant_none (is_none_gen ⟨.bl _, H1, I1, by rw [r1.none_iff]; rfl, q1⟩)
theorem pc_notN {j pos'} (ha : PE X a ta) : PC X .IsNot a (.Constant .none j pos') (tNotN ta) := by
  intro pins s σ H Q I h
  refine thn (ha pins s σ H _ I h) fun v s1 ⟨x, H1, I1, r1, q1⟩ => ?_
  exact Constant_none (isnot_none_gen ⟨.bl _, H1, I1, by rw [r1.none_iff]; rfl, q1⟩)
/-- a comparison as a value, as a test -/
def tB (t : TE) : TT := fun σ H Q => t σ H fun x H1 => ∃ c, x = .bl c ∧ Q c H1
theorem pe_cmp {op : CmpOp} {t : TE} (h : PC X op a b t) (h1 : behindInMarks op b = false := by first | exact nobehind _ (by decide) (by decide) | rfl) : PE X (.Compare a [op] [b] pos) t := fun pins s σ H Q I hw => wpAny_Compare1 (h pins s σ H Q I hw) h1
theorem pt_cmp {op : CmpOp} {t : TE} (h : PC X op a b t) (h1 : behindInMarks op b = false := by first | exact nobehind _ (by decide) (by decide) | rfl) : PT X (.Compare a [op] [b] pos) (tB t) := by
  intro pins s σ H Q I hw
  refine wpAny_isTrue_Compare1 (thn (h pins s σ H _ I hw) fun v s1 h1 => thn h1 fun u s2 h2 => thn h2 fun c s3 ⟨x, H1, I1, r1, q1⟩ => ?_) h1
  obtain ⟨d, rfl, q⟩ := q1
  cases r1
  exact wpAny_truthy_bool ⟨H1, I1, q⟩
/-- an expression whose value is a bool, as a test -/
theorem pt_val {e : Expr} {t : TE} (h : PE X e t) (he : ∀ whole, isTrue e X.env whole = (do let v ← whole; standAt e.pos; holding [v] (truthy v)) := by intro _; rfl) : PT X e (tB t) := by
  intro pins s σ H Q I hw
  refine isTrue_plain (thn (h pins s σ H _ I hw) fun v s1 ⟨x, H1, I1, r1, q1⟩ => ?_) (he _)
  obtain ⟨d, rfl, q⟩ := q1
  cases r1
  exact wpAny_truthy_bool ⟨H1, I1, q⟩

/-! ### and, or, not -/
variable {tA tB' : TT} {rest : List Expr}
def tAnd (t u : TT) : TT := fun σ H Q => t σ H fun c H1 => if c = true then u σ H1 Q else Q false H1
def tOr (t u : TT) : TT := fun σ H Q => t σ H fun c H1 => if c = true then Q true H1 else u σ H1 Q
def tNot (t : TT) : TT := fun σ H Q => t σ H fun c H1 => Q (!c) H1
theorem pw_and1 (ha : PT X a tA) : PW X (.BoolOp .And [a] pos) tA := by
  intro wh pins s σ H Q I h
  refine isTrue_and (thn (ha pins s σ H Q I h) fun c s1 e => ?_)
  cases c with
  | true => exact isTrue_and_nil e
  | false => exact e
theorem pw_or1 (ha : PT X a tA) : PW X (.BoolOp .Or [a] pos) tA := by
  intro wh pins s σ H Q I h
  refine isTrue_or (thn (ha pins s σ H Q I h) fun c s1 e => ?_)
  cases c with
  | false => exact isTrue_or_nil e
  | true => exact e
theorem pw_and (ha : PT X a tA) (hb : PW X (.BoolOp .And (b :: rest) pos) tB') : PW X (.BoolOp .And (a :: b :: rest) pos) (tAnd tA tB') := by
  intro wh pins s σ H Q I h
  refine isTrue_and (thn (ha pins s σ H _ I h) fun c s1 ⟨H1, I1, q1⟩ => ?_)
  cases c with
  | true => exact hb wh pins s1 σ H1 Q I1 q1
  | false => exact ⟨H1, I1, q1⟩
theorem pw_or (ha : PT X a tA) (hb : PW X (.BoolOp .Or (b :: rest) pos) tB') : PW X (.BoolOp .Or (a :: b :: rest) pos) (tOr tA tB') := by
  intro wh pins s σ H Q I h
  refine isTrue_or (thn (ha pins s σ H _ I h) fun c s1 ⟨H1, I1, q1⟩ => ?_)
  cases c with
  | true => exact ⟨H1, I1, q1⟩
  | false => exact hb wh pins s1 σ H1 Q I1 q1
theorem pt_not (ha : PT X a tA) : PT X (.UnaryOp .Not a pos) (tNot tA) := by
  intro pins s σ H Q I h
  exact isTrue_not (ha pins s σ H (fun c H1 => Q (!c) H1) I h)
/-- .. as values (bools) -/
def tAndV (ta tb : TE) : TE := fun σ H Q => ta σ H fun x H1 => ∃ c, x = .bl c ∧ if c = true then tb σ H1 Q else Q (.bl false) H1
def tOrV (ta tb : TE) : TE := fun σ H Q => ta σ H fun x H1 => ∃ c, x = .bl c ∧ if c = true then Q (.bl true) H1 else tb σ H1 Q
def tNotV (ta : TE) : TE := fun σ H Q => ta σ H fun x H1 => ∃ c, x = .bl c ∧ Q (.bl (!c)) H1
theorem pe_one {op} {t : TE} (h : PE X a t) : PE X (.BoolOp op [a] pos) t := fun pins s σ H Q I hw => BoolOp_one (h pins s σ H Q I hw)
theorem pe_and (ha : PE X a ta) (hb : PE X (.BoolOp .And (b :: rest) pos) tb) : PE X (.BoolOp .And (a :: b :: rest) pos) (tAndV ta tb) := by
  intro pins s σ H Q I h
  refine BoolOp_and (thn (ha pins s σ H _ I h) fun v s1 ⟨x, H1, I1, r1, q1⟩ => ?_)
  obtain ⟨c, rfl, q1⟩ := q1
  cases r1
  refine wpAny_truthy_bool ?_
  cases c with
  | true => exact hb pins s1 σ H1 Q I1 q1
  | false => exact ⟨.bl false, H1, I1, rfl, q1⟩
theorem pe_or (ha : PE X a ta) (hb : PE X (.BoolOp .Or (b :: rest) pos) tb) : PE X (.BoolOp .Or (a :: b :: rest) pos) (tOrV ta tb) := by
  intro pins s σ H Q I h
  refine BoolOp_or (thn (ha pins s σ H _ I h) fun v s1 ⟨x, H1, I1, r1, q1⟩ => ?_)
  obtain ⟨c, rfl, q1⟩ := q1
  cases r1
  refine wpAny_truthy_bool ?_
  cases c with
  | false => exact hb pins s1 σ H1 Q I1 q1
  | true => exact ⟨.bl true, H1, I1, rfl, q1⟩
theorem pe_not (ha : PE X a ta) : PE X (.UnaryOp .Not a pos) (tNotV ta) := by
  intro pins s σ H Q I h
  refine UnaryOp_ (thn (ha pins s σ H _ I h) fun v s1 ⟨x, H1, I1, r1, q1⟩ => ?_)
  obtain ⟨c, rfl, q1⟩ := q1
  cases r1
  exact not_of (wpAny_truthy_bool ⟨.bl (!c), H1, I1, rfl, q1⟩)
/-- a if t else b -/
def tIf (t : TT) (ta tb : TE) : TE := fun σ H Q => t σ H fun c H1 => if c = true then ta σ H1 Q else tb σ H1 Q
theorem pe_ifExp {c : Expr} (hc : PT X c tA) (ha : PE X a ta) (hb : PE X b tb) : PE X (.IfExp c a b pos) (tIf tA ta tb) := by
  intro pins s σ H Q I h
  refine wpAny_IfExp (thn (hc pins s σ H _ I h) fun d s1 ⟨H1, I1, q1⟩ => ?_)
  cases d with
  | true => exact ha pins s1 σ H1 Q I1 q1
  | false => exact hb pins s1 σ H1 Q I1 q1
end
end L2

namespace L2
open PySem PySem.Spec PyProof.Rows

/-! ### a list, a tuple that is read: tracked, frozen, or an object of the module -/
def SqL (K : PySem.W.Frag) (H : Hp) (a : Addr) (xs : List V) : Prop :=
  Rd H a (.lst xs) ∨
    ∃ (o : Obj) (its : Array Value) (n : Nat), K.lookup a = some o ∧ o.cls = .type "list" ∧ o.dict = none ∧ o.data = .seq its n ∧ its.size ≤ sizeLine ∧ Vals xs its.toList
def SqT (K : PySem.W.Frag) (H : Hp) (a : Addr) (xs : List V) : Prop :=
  Rd H a (.tup xs) ∨
    ∃ (o : Obj) (its : Array Value) (n : Nat), K.lookup a = some o ∧ o.cls = .type "tuple" ∧ o.data = .seq its n ∧ its.size ≤ sizeLine ∧ Vals xs its.toList
def absV : Value → Option V
  | .none => some .non
  | .bool b => some (.bl b)
  | .int i _ => some (.int i)
  | .str x _ => some (.str x)
  | .bytes b _ => some (.byt b)
  | .float b _ => some (.flt b)
  | .ref a => some (.ref a)
  | .type n => some (.ty n)
  | _ => none
theorem RelV.abs {x : V} {u : Value} (r : RelV x u) : absV u = some x := by
  cases x with
  | non => cases r; rfl
  | bl _ => cases r; rfl
  | int _ => obtain ⟨t, rfl⟩ := r; rfl
  | str _ => obtain ⟨t, rfl⟩ := r; rfl
  | byt _ => obtain ⟨t, rfl⟩ := r; rfl
  | flt _ => obtain ⟨t, rfl⟩ := r; rfl
  | ref _ => cases r; rfl
  | ty _ => cases r; rfl
theorem RelV.inj {x y : V} {u : Value} (r : RelV x u) (q : RelV y u) : x = y := Option.some.inj (r.abs.symm.trans q.abs)
theorem Vals.inj : ∀ {xs ys : List V} {us : List Value}, Vals xs us → Vals ys us → xs = ys
  | _, _, _, .nil, .nil => rfl
  | _, _, _, .cons r t, .cons r' t' => by rw [r.inj r', Vals.inj t t']
section
variable {X : Cx} {pins : List (Addr × Obj)} {σ : St} {H : Hp} {s : Shared} {a : Addr} {xs ys : List V}
theorem SqL.of {K : PySem.W.Frag} (h : H a = some (.lst xs)) : SqL K H a xs := .inl (.inl h)
theorem SqT.of {K : PySem.W.Frag} (h : H a = some (.tup xs)) : SqT K H a xs := .inl (.inl h)
theorem Inv.list (I : Inv X pins σ H s) (h : SqL X.K H a xs) : ∃ its : List Value, Vals xs its ∧ PlainL s.heap a its.toArray ∧ xs.length ≤ sizeLine := by
  rcases h with h | ⟨o, its, n, hk, hc, hd, hs, hz, r⟩
  · obtain ⟨z, its, n, r, e⟩ := h.ok I.hok
    exact ⟨its, r, ⟨_, n, e, rfl, rfl, rfl⟩, z⟩
  · refine ⟨its.toList, r, ⟨o, n, I.kIn a o hk, hc, hd, by simpa using hs⟩, ?_⟩
    have e := r.length
    simp only [Array.length_toList] at e
    omega
theorem Inv.tuple (I : Inv X pins σ H s) (h : SqT X.K H a xs) : ∃ its : List Value, Vals xs its ∧ IsTup s.heap a its.toArray ∧ xs.length ≤ sizeLine := by
  rcases h with h | ⟨o, its, n, hk, hc, hs, hz, r⟩
  · obtain ⟨z, its, r, p⟩ := h.ok I.hok
    exact ⟨its, r, p, z⟩
  · refine ⟨its.toList, r, ⟨o, I.kIn a o hk, hc, n, by simpa using hs⟩, ?_⟩
    have e := r.length
    simp only [Array.length_toList] at e
    omega
theorem Inv.list_inj (I : Inv X pins σ H s) (h : SqL X.K H a xs) (h' : SqL X.K H a ys) : xs = ys := by
  obtain ⟨its, r, ⟨o, n, e, _, _, d⟩, _⟩ := I.list h
  obtain ⟨its', r', ⟨o', n', e', _, _, d'⟩, _⟩ := I.list h'
  rw [e] at e'; cases e'
  rw [d] at d'
  injection d' with d1 _
  have : its = its' := by simpa using congrArg Array.toList d1
  subst this
  exact r.inj r'
theorem Inv.tuple_inj (I : Inv X pins σ H s) (h : SqT X.K H a xs) (h' : SqT X.K H a ys) : xs = ys := by
  obtain ⟨its, r, ⟨o, e, _, n, d⟩, _⟩ := I.tuple h
  obtain ⟨its', r', ⟨o', e', _, n', d'⟩, _⟩ := I.tuple h'
  rw [e] at e'; cases e'
  rw [d] at d'
  injection d' with d1 _
  have : its = its' := by simpa using congrArg Array.toList d1
  subst this
  exact r.inj r'
end

/-! ### another wish about exceptions -/
abbrev Cx.wish (X : Cx) (E : Value → Shared → Prop) : Cx := { X with xe := E }
/-- no exception leaves -/
abbrev Cx.nox (X : Cx) : Cx := X.wish fun _ _ => False
theorem Cx.Ok.wish {X : Cx} (ok : X.Ok) (E : Value → Shared → Prop) : (X.wish E).Ok :=
  ⟨ok.mod, ok.kind, ok.glob, ok.blt, ok.above, ok.inj, ok.has, ok.cab, ok.hd, ok.frames, ok.stk, ok.exf, ok.bs, ok.bsz, ok.noex, ok.exfs, ok.funs, ok.frf⟩
theorem Cx.Ok.unwish {X : Cx} {E : Value → Shared → Prop} (ok : (X.wish E).Ok) : X.Ok :=
  ⟨ok.mod, ok.kind, ok.glob, ok.blt, ok.above, ok.inj, ok.has, ok.cab, ok.hd, ok.frames, ok.stk, ok.exf, ok.bs, ok.bsz, ok.noex, ok.exfs, ok.funs, ok.frf⟩
section
variable {X : Cx} {pins : List (Addr × Obj)} {σ : St} {H : Hp} {s : Shared} {E : Value → Shared → Prop}
theorem Inv.wish (I : Inv X pins σ H s) (E : Value → Shared → Prop) : Inv (X.wish E) pins σ H s := ⟨I.ok.wish E, I.os, I.bare, I.base, I.loc, I.cell, I.free, I.freeC, I.pin, I.hok, I.len⟩
theorem Inv.unwish (I : Inv (X.wish E) pins σ H s) : Inv X pins σ H s := ⟨I.ok.unwish, I.os, I.bare, I.base, I.loc, I.cell, I.free, I.freeC, I.pin, I.hok, I.len⟩
theorem SP.unwish {D : Ends} {f : Flow} {s' : Shared} (h : SP (X.wish E) pins D f s') : SP X pins D f s' := by
  cases f with
  | next => obtain ⟨σ', H', I, q⟩ := h; exact ⟨σ', H', I.unwish, q⟩
  | brk => obtain ⟨σ', H', I, q⟩ := h; exact ⟨σ', H', I.unwish, q⟩
  | cont => obtain ⟨σ', H', I, q⟩ := h; exact ⟨σ', H', I.unwish, q⟩
  | ret u => obtain ⟨v, σ', H', I, r, q⟩ := h; exact ⟨v, σ', H', I.unwish, r, q⟩
theorem PE.nox {e : Expr} {t : TE} (h : PE X.nox e t) : PE X e t := fun pins s σ H Q I hw =>
  wpAny_mono (h pins s σ H Q (I.wish _) hw) (fun _ _ ⟨v, H', I', r, q⟩ => ⟨v, H', I'.unwish, r, q⟩) fun _ _ z => False.elim z
theorem PT.nox {e : Expr} {t : TT} (h : PT X.nox e t) : PT X e t := fun pins s σ H Q I hw =>
  wpAny_mono (h pins s σ H Q (I.wish _) hw) (fun _ _ ⟨H', I', q⟩ => ⟨H', I'.unwish, q⟩) fun _ _ z => False.elim z
theorem PSs.nox {st : List Stmt} {t : TS} (h : PSs X.nox st t) : PSs X st t := fun pins s σ H D I hw =>
  wpAny_mono (h pins s σ H D (I.wish _) hw) (fun _ _ q => q.unwish) fun _ _ z => False.elim z
end

/-! ### blocks and small statements -/
section
variable {X : Cx} {st : Stmt} {rest : List Stmt} {t u : TS} {e : Expr} {te : TE} {pos : Pos}
def tNext : TS := fun D σ H => D.nx σ H
def tSeq (t u : TS) : TS := fun D σ H => t { D with nx := u D } σ H
theorem pss_nil : PSs X [] tNext := fun _ _ σ H _ I h => wpAny_execs_nil ⟨σ, H, I, h⟩
theorem pss_cons (h1 : PS X st t) (h2 : PSs X rest u) : PSs X (st :: rest) (tSeq t u) := by
  intro pins s σ H D I h
  refine wpAny_execs_cons (thn (h1 pins s σ H { D with nx := u D } I h) fun f s1 q => ?_)
  cases f with
  | next =>
    obtain ⟨σ', H', I', q⟩ := q
    exact h2 pins s1 σ' H' D I' q
  | ret v => exact q
  | brk => exact q
  | cont => exact q
theorem pss_one (h1 : PS X st t) : PSs X [st] t := by
  intro pins s σ H D I h
  refine wpAny_execs_cons (thn (h1 pins s σ H D I h) fun f s1 q => ?_)
  cases f with
  | next => exact wpAny_execs_nil q
  | ret v => exact q
  | brk => exact q
  | cont => exact q
def tBreak : TS := fun D σ H => D.bk σ H
def tCont : TS := fun D σ H => D.ct σ H
theorem ps_pass : PS X (.Pass pos) tNext := fun _ _ σ H _ I h => wpAny_Pass ⟨σ, H, I, h⟩
theorem ps_break : PS X (.Break pos) tBreak := fun _ _ σ H _ I h => wpAny_Break ⟨σ, H, I, h⟩
theorem ps_continue : PS X (.Continue pos) tCont := fun _ _ σ H _ I h => wpAny_Continue ⟨σ, H, I, h⟩
/-- in a def's body nothing is shown -/
theorem Inv.quiet {pins : List (Addr × Obj)} {σ : St} {H : Hp} {s : Shared} (I : Inv X pins σ H s) : interactive X.env = false := by simp [interactive, I.ok.kind]
/-- a docstring -/
theorem ps_doc {x j pos pos'} : PS X (.Expr (.Constant (.str x) j pos) pos') tNext := fun _ s σ H _ I h => wpAny_Expr (Calls.Constant_str (show SP X _ _ .next { s with toks := s.toks + 1 } from ⟨σ, H, I.tok _, h⟩)) I.quiet
/-- an expression whose value is dropped -/
def tDrop (te : TE) : TS := fun D σ H => te σ H fun _ H1 => D.nx σ H1
theorem ps_expr (he : PE X e te) (hs : swapsWith e none pos.line X.env = pure false := by rfl) : PS X (.Expr e pos) (tDrop te) := by
  intro pins s σ H D I h
  exact wpAny_Expr_any (thn (he pins s σ H _ I h) fun v s1 ⟨x, H1, I1, r1, q1⟩ => ⟨σ, H1, I1, q1⟩) I.quiet hs
def tRet (te : TE) : TS := fun D σ H => te σ H D.rt
theorem ps_ret (he : PE X e te) : PS X (.Return (some e) pos) (tRet te) := by
  intro pins s σ H D I h
  exact wpAny_Return_some (thn (he pins s σ H _ I h) fun v s1 ⟨x, H1, I1, r1, q1⟩ => ⟨x, σ, H1, I1, r1, q1⟩)
def tRetN : TS := fun D _ H => D.rt .non H
theorem ps_retN : PS X (.Return none pos) tRetN := fun _ _ σ H _ I h => wpAny_Return_none ⟨.non, σ, H, I, rfl, h⟩
def tIfS (c : TT) (t u : TS) : TS := fun D σ H => c σ H fun b H1 => if b = true then t D σ H1 else u D σ H1
theorem ps_if {c : Expr} {a b : List Stmt} {tc : TT} (hc : PT X c tc) (ha : PSs X a t) (hb : PSs X b u) : PS X (.If c a b pos) (tIfS tc t u) := by
  intro pins s σ H D I h
  refine wpAny_If (thn (hc pins s σ H _ I h) fun d s1 ⟨H1, I1, q1⟩ => ?_)
  cases d with
  | true => exact ha pins s1 σ H1 D I1 q1
  | false => exact hb pins s1 σ H1 D I1 q1
/-- code that the proof never comes to -/
def tNever : TS := fun _ _ _ => False
theorem ps_never : PS X st tNever := fun _ _ _ _ _ _ h => h.elim
theorem pss_never {sts : List Stmt} : PSs X sts tNever := fun _ _ _ _ _ _ h => h.elim
end

/-! ### targets -/
abbrev TG := V → St → Hp → (St → Hp → Prop) → Prop
abbrev TGs := List V → St → Hp → (St → Hp → Prop) → Prop
def PG (X : Cx) (target : Expr) (t : TG) : Prop :=
  ∀ (pins : List (Addr × Obj)) (s : Shared) (σ : St) (H : Hp) (v : V) (u : Value) (Q : St → Hp → Prop), Inv X pins σ H s → RelV v u → t v σ H Q →
    wpAny (model X.prog X.w) X.A (assign target X.env u) (fun _ s' => ∃ σ' H', Inv X pins σ' H' s' ∧ Q σ' H') X.xe s
/-- several targets, one after another -/
def PGs (X : Cx) (ts : List Expr) (t : TGs) : Prop :=
  ∀ (pins : List (Addr × Obj)) (s : Shared) (σ : St) (H : Hp) (vs : List V) (us : List Value) (Q : St → Hp → Prop), Inv X pins σ H s → Vals vs us → t vs σ H Q →
    wpAny (model X.prog X.w) X.A (assignInOrder ((assignEach ts X.env).map (·.2)) us) (fun _ s' => ∃ σ' H', Inv X pins σ' H' s' ∧ Q σ' H') X.xe s
/-- o[i] = v, by values -/
abbrev TSet := V → V → V → Hp → (Hp → Prop) → Prop
def PSet (X : Cx) (t : TSet) : Prop :=
  ∀ (pins : List (Addr × Obj)) (s : Shared) (σ : St) (H : Hp) (o i v : V) (ov iv u : Value) (Q : Hp → Prop), Inv X pins σ H s → RelV o ov → RelV i iv → RelV v u → t o i v H Q →
    wpAny (model X.prog X.w) X.A (setItem ov iv u) (fun _ s' => ∃ H', Inv X pins σ H' s' ∧ Q H') X.xe s
/-- a op= b, by values -/
abbrev TIp := V → V → Hp → VK → Prop
def PIp (X : Cx) (op : Operator) (t : TIp) : Prop :=
  ∀ (pins : List (Addr × Obj)) (s : Shared) (σ : St) (H : Hp) (x y : V) (v u : Value) (Q : VK), Inv X pins σ H s → RelV x v → RelV y u → t x y H Q →
    wpAny (model X.prog X.w) X.A (inplaceOp op v u) (EP X pins σ Q) X.xe s
section
variable {X : Cx} {pos : Pos}
def gName (i : Nat) : TG := fun v σ H Q => Q (σ.set i (some v)) H
theorem pg_name {i : Nat} {x : Str} (hN : X.N.Nodup) (hi : X.N[i]? = some x) (hx : Loc X.env.scope x) (hf : X.fn x = true ∨ X.env.scope.names.lookup x = some .local := by first | exact .inl rfl | exact .inr rfl | assumption) : PG X (.Name x pos) (gName i) := by
  intro pins s σ H v u Q I r h
  exact wpAny_assign_Name (store_ok I hN hi hx r (fun s' I' => ⟨_, H, I', h⟩) hf)
def gNil : TGs := fun vs σ H Q => vs = [] ∧ Q σ H
def gCons (t : TG) (u : TGs) : TGs := fun vs σ H Q => ∃ v r, vs = v :: r ∧ t v σ H fun σ' H' => u r σ' H' Q
theorem pgs_nil : PGs X [] gNil := by
  intro pins s σ H vs us Q I r h
  obtain ⟨e, h⟩ := h
  subst e
  cases r
  exact assignInOrder_nil ⟨σ, H, I, h⟩
theorem pgs_cons {e : Expr} {es : List Expr} {t : TG} {u : TGs} (h1 : PG X e t) (h2 : PGs X es u)
    (hs : (assignEach (e :: es) X.env).map (·.2) = assign e X.env :: (assignEach es X.env).map (·.2) := by rfl) : PGs X (e :: es) (gCons t u) := by
  intro pins s σ H vs us Q I r h
  obtain ⟨v, vr, e1, h⟩ := h
  subst e1
  cases r with
  | cons r rr =>
    rw [hs]
    refine assignInOrder_cons (thn (h1 pins s σ H _ _ _ I r h) fun _ s1 ⟨σ1, H1, I1, q1⟩ => ?_)
    exact h2 pins s1 σ1 H1 _ _ Q I1 rr q1
/-- (a, b, ..) = a tuple of that length -/
def gTup (K : PySem.W.Frag) (n : Nat) (t : TGs) : TG := fun v σ H Q => ∃ a xs, v = .ref a ∧ SqT K H a xs ∧ xs.length = n ∧ t xs σ H Q
theorem pg_tup {es : List Expr} {k : Nat} {t : TGs} {n : Nat} (hc : X.calm = true) (h : PGs X es t)
    (hn : (assignEach es X.env).length = n := by rfl) (hst : (assignEach es X.env).findIdx? (·.1) = none := by rfl) : PG X (.Tuple es k pos) (gTup X.K n t) := by
  intro pins s σ H v u Q I r hw
  obtain ⟨a, xs, e1, hq, hl, hw⟩ := hw
  subst e1
  cases r
  obtain ⟨its, rv, ht, hz⟩ := I.tuple hq
  refine assign_Tuple_tuple (I.ok.hd hc) ht (by simp [hn, ← hl, rv.length]) hst fun h' hx => ?_
  have I1 : Inv X pins σ H { s with heap := h' } := I.kept (t' := s.toks) fun b o e => hx b o (Nat.ne_of_lt (Heap.lt_size e)) e
  exact h pins _ σ H xs _ Q I1 (by simpa using rv) hw
/-- o[i] = .. -/
def gSub (to ti : TE) (t : TSet) : TG := fun v σ H Q => to σ H fun o H1 => ti σ H1 fun i H2 => t o i v H2 fun H3 => Q σ H3
theorem pg_sub {o i : Expr} {to ti : TE} {t : TSet} (ho : PE X o to) (hi : PE X i ti) (hs : PSet X t)
    (ha : ∀ v, assign (.Subscript o i pos) X.env v = (do
      let ov ← holding [v] (eval o X.env)
      let iv ← holding [v, ov] (eval i X.env)
      standAt pos
      holding [v, ov, iv] (setItem ov iv v)
      release [v, ov, iv] []) := by intro _; rfl) : PG X (.Subscript o i pos) (gSub to ti t) := by
  intro pins s σ H v u Q I r h
  rw [ha]
  refine wpAny_bind (wpAny_holding (thn (ho pins s σ H _ I h) fun ov s1 ⟨x, H1, I1, r1, q1⟩ => ?_))
  refine wpAny_bind (wpAny_holding (thn (hi pins s1 σ H1 _ I1 q1) fun iv s2 ⟨y, H2, I2, r2, q2⟩ => ?_))
  refine wpAny_bind (wpAny_standAt (wpAny_bind (wpAny_holding (thn (hs pins s2 σ H2 x y v ov iv u _ I2 r1 r2 r q2) fun _ s3 ⟨H3, I3, q3⟩ => ?_))))
  exact wpAny_release ⟨σ, H3, I3, q3⟩
/-- target = value -/
def tAsg (te : TE) (g : TG) : TS := fun D σ H => te σ H fun x H1 => g x σ H1 D.nx
theorem ps_asg {tg e : Expr} {te : TE} {g : TG} (he : PE X e te) (hg : PG X tg g) (hs : swapsWithSole [tg] e pos.line X.env = pure false := by rfl) (hw : swappedStores [tg] e X.env = pure none := by rfl)
    (h1 : (assignEach [tg] X.env).map (·.2) = [assign tg X.env] := by rfl) : PS X (.Assign [tg] e pos) (tAsg te g) := by
  intro pins s σ H D I h
  refine wpAny_Assign_stores (thn (he pins s σ H _ I h) fun v s1 ⟨x, H1, I1, r1, q1⟩ => ?_) hs hw
  rw [h1]
  exact thn (hg pins s1 σ H1 x v _ I1 r1 q1) fun _ s2 q => q
/-- name = value -/
theorem ps_set {i : Nat} {x : Str} {e : Expr} {te : TE} {pos' : Pos} (hN : X.N.Nodup) (hi : X.N[i]? = some x) (hx : Loc X.env.scope x) (he : PE X e te) (hs : swapsWith e (some (.Name x pos')) pos.line X.env = pure false := by rfl) (hf : X.fn x = true ∨ X.env.scope.names.lookup x = some .local := by first | exact .inl rfl | exact .inr rfl | assumption) :
    PS X (.Assign [.Name x pos'] e pos) (tAsg te (gName i)) := by
  intro pins s σ H D I h
  refine wpAny_Assign_Name (thn (he pins s σ H _ I h) fun v s1 ⟨y, H1, I1, r1, q1⟩ => ?_) hs
  exact store_ok I1 hN hi hx r1 (fun s2 I2 => ⟨_, H1, I2, q1⟩) hf
/-- a, b = x, y with plain local names: stored from the right; the pair itself is not tracked (the opening rows as in PyProof/Rows/TupAssign.lean:23) -/
def tPar (i j : Nat) (ta : TA) : TS := fun D σ H => ta σ H fun vs H1 => ∃ v w, vs = [v, w] ∧ D.nx ((σ.set i (some v)).set j (some w)) H1
theorem ps_par {i j : Nat} {x y : Str} {a b : Expr} {ta : TA} {px py pt : Pos} {kt k2 pt2} (hc : X.calm = true) (hN : X.N.Nodup) (hi : X.N[i]? = some x) (hj : X.N[j]? = some y) (hij : i ≠ j)
    (hx : X.env.scope.names.lookup x = some .local) (hy : X.env.scope.names.lookup y = some .local) (ha : PA X [a, b] ta)
    (hw : swappedStores [.Tuple [.Name x px, .Name y py] kt pt] (.Tuple [a, b] k2 pt2) X.env = pure (some [x, y]))
    (hs : swapsWithSole [.Tuple [.Name x px, .Name y py] kt pt] (.Tuple [a, b] k2 pt2) pos.line X.env = pure false := by rfl) :
    PS X (.Assign [.Tuple [.Name x px, .Name y py] kt pt] (.Tuple [a, b] k2 pt2) pos) (tPar i j ta) := by
  intro pins s σ H D I h
  rw [exec_Assign_arm]
  refine wpAny_bind (wpAny_standAt ?_)
  rw [hs]
  refine wpAny_bind (wpAny_pure ?_)
  rw [if_neg (by decide)]
  refine wpAny_bind (Tuple_ (thn (ha _ pins s σ H _ I h) fun us s1 ⟨vs, H1, I1, r1, q1⟩ => ?_))
  obtain ⟨v, w, e1, q1⟩ := q1
  subst e1
  obtain ⟨u1, u2, rfl, rv, rw'⟩ : ∃ u1 u2, us = [u1, u2] ∧ RelV v u1 ∧ RelV w u2 := by
    cases r1 with
    | cons p q =>
      cases q with
      | cons p' q' =>
        cases q'
        exact ⟨_, _, rfl, p, p'⟩
  refine wpAny_newObj_type ?_ (by show 2 ≤ sizeLine; decide)
  have I2 : Inv X pins σ H1 { s1 with heap := s1.heap.push { cls := .type "tuple", data := .seq [u1, u2].toArray } } := I1.kept (t' := s1.toks) fun b o e => Heap.get?_push_of_some _ e
  rw [hw]
  refine wpAny_bind (wpAny_pure ?_)
  show wpAny (model X.prog X.w) X.A (do rule "assign.swapped-stores"; let items ← unpackItems (.ref s1.heap.objs.size) 2 none; assignInOrder [fun v => bindName X.env y v, fun v => bindName X.env x v] items.reverse; pure Flow.next) _ _ _
  refine wpAny_bind (wpAny_rule (wpAny_bind (unpackItems_tuple (items := #[u1, u2]) (I.ok.hd hc) (IsTup.new s1.heap _) fun h' hx' => ?_)))
  have I3 := I2.kept (h' := h') (t' := s1.toks) fun b o e => hx' b o (Nat.ne_of_lt (Heap.lt_size e)) e
  show wpAny _ _ (assignInOrder [fun v => bindName X.env y v, fun v => bindName X.env x v] [u2, u1] >>= fun _ => pure Flow.next) _ _ _
  refine wpAny_bind (assignInOrder_cons (wpAny_bindName (store_ok I3 hN hj (.inl hy) rw' (fun s2 I4 => ?_) (.inr hy))))
  refine assignInOrder_cons (wpAny_bindName (store_ok I4 hN hi (.inl hx) rv (fun s3 I5 => assignInOrder_nil (wpAny_pure ?_)) (.inr hx)))
  rw [List.set_comm _ _ (Ne.symm hij)] at I5
  exact ⟨_, H1, I5, q1⟩
/-- name op= e -/
def tAug (i : Nat) (te : TE) (ti : TIp) : TS := fun D σ H => ∃ x, σ[i]? = some (some x) ∧ te σ H fun y H1 => ti x y H1 fun z H2 => D.nx (σ.set i (some z)) H2
theorem ps_aug {i : Nat} {x : Str} {e : Expr} {te : TE} {op : Operator} {ti : TIp} {pos' : Pos} (hN : X.N.Nodup) (hi : X.N[i]? = some x) (hx : Loc X.env.scope x) (he : PE X e te) (ho : PIp X op ti) (hf : X.fn x = true ∨ X.env.scope.names.lookup x = some .local := by first | exact .inl rfl | exact .inr rfl | assumption) :
    PS X (.AugAssign (.Name x pos') op e pos) (tAug i te ti) := by
  intro pins s σ H D I h
  obtain ⟨v, e1, h⟩ := h
  obtain ⟨m, hn, hl⟩ := I.loc
  have vis : Vis X.env.scope x := by rcases hx with k | k; exact .inl k; exact .inr (.inl k)
  obtain ⟨u, r, l⟩ := hl i x v hi e1 vis
  refine wpAny_AugAssign_Name ?_
  have go : wpAny (model X.prog X.w) X.A (eval e X.env) (fun w s₂ => wpAny (model X.prog X.w) X.A (inplaceOp op u w) (fun r s₃ => wpAny (model X.prog X.w) X.A (storeName X.env x r) (fun _ => SP X pins D .next) X.xe s₃) X.xe s₂) X.xe s := by
    refine thn (he pins s σ H _ I h) fun w s1 ⟨y, H1, I1, r1, q1⟩ => ?_
    refine thn (ho pins s1 σ H1 v y u w _ I1 r r1 q1) fun z s2 ⟨zv, H2, I2, r2, q2⟩ => ?_
    exact store_ok I2 hN hi hx r2 (fun s3 I3 => ⟨_, H2, I3, q2⟩) hf
  rcases l with ⟨hk, hm⟩ | ⟨hk, c, hc, hcell⟩
  · exact wpAny_loadName_local I.ok.kind hk hn hm go
  · rcases hk with hk | hk
    · exact wpAny_loadName_cell I.ok.kind hk hc hcell go
    · rcases hx with k | k
      · have : X.env.scope.names.lookup x = some .free := hk
        rw [k] at this; cases this
      · have : X.env.scope.names.lookup x = some .free := hk
        rw [k] at this; cases this
/-- o[i] op= e -/
def tAugS (to ti te : TE) (tget : V → V → Hp → VK → Prop) (tip : TIp) (tset : TSet) : TS := fun D σ H => to σ H fun o H1 => ti σ H1 fun i H2 => tget o i H2 fun x H3 => te σ H3 fun y H4 => tip x y H4 fun z H5 => tset o i z H5 fun H6 => D.nx σ H6
/-- o[i], by values -/
def PGet (X : Cx) (t : V → V → Hp → VK → Prop) : Prop :=
  ∀ (pins : List (Addr × Obj)) (s : Shared) (σ : St) (H : Hp) (o i : V) (ov iv : Value) (Q : VK), Inv X pins σ H s → RelV o ov → RelV i iv → t o i H Q →
    wpAny (model X.prog X.w) X.A (getItem ov iv) (EP X pins σ Q) X.xe s
theorem ps_augS {o i e : Expr} {to ti te : TE} {tget : V → V → Hp → VK → Prop} {tip : TIp} {tset : TSet} {op : Operator} {tpos : Pos} (ho : PE X o to) (hi : PE X i ti) (hg : PGet X tget) (he : PE X e te) (hp : PIp X op tip) (hs : PSet X tset)
    (ha : ∀ ov iv new, augStore i ov iv new = (do holding [new, ov, iv] (setItem ov iv new); release [new, ov, iv] []; pure .next) := by intros; rfl) : PS X (.AugAssign (.Subscript o i tpos) op e pos) (tAugS to ti te tget tip tset) := by
  intro pins s σ H D I h
  refine wpAny_AugAssign_SubscriptAny (thn (ho pins s σ H _ I h) fun ov s1 ⟨x1, H1, I1, r1, q1⟩ => ?_) ha
  refine thn (hi pins s1 σ H1 _ I1 q1) fun iv s2 ⟨x2, H2, I2, r2, q2⟩ => ?_
  refine thn (hg pins s2 σ H2 x1 x2 ov iv _ I2 r1 r2 q2) fun old s3 ⟨x3, H3, I3, r3, q3⟩ => ?_
  refine thn (he pins s3 σ H3 _ I3 q3) fun v s4 ⟨x4, H4, I4, r4, q4⟩ => ?_
  refine thn (hp pins s4 σ H4 x3 x4 old v _ I4 r3 r4 q4) fun new s5 ⟨x5, H5, I5, r5, q5⟩ => ?_
  exact thn (hs pins s5 σ H5 x1 x2 x5 ov iv new _ I5 r1 r2 r5 q5) fun _ s6 ⟨H6, I6, q6⟩ => ⟨σ, H6, I6, q6⟩
/-- ints -/
def ipI (f : Int → Int → Int) : TIp := fun x y H Q => ∃ i j, x = .int i ∧ y = .int j ∧ Q (.int (f i j)) H
theorem ip_add : PIp X .Add (ipI fun i j => i + j) := by
  intro pins s σ H x y v u Q I r1 r2 h
  obtain ⟨i, j, e1, e2, q⟩ := h
  subst e1; subst e2
  obtain ⟨t, rfl⟩ := r1
  obtain ⟨t', rfl⟩ := r2
  exact iadd_int ⟨.int _, H, I.tok _, ⟨_, rfl⟩, q⟩
theorem ip_sub : PIp X .Sub (ipI fun i j => i - j) := by
  intro pins s σ H x y v u Q I r1 r2 h
  obtain ⟨i, j, e1, e2, q⟩ := h
  subst e1; subst e2
  obtain ⟨t, rfl⟩ := r1
  obtain ⟨t', rfl⟩ := r2
  exact isub_int ⟨.int _, H, I.tok _, ⟨_, rfl⟩, q⟩
end

/-! ### while -/
section
variable {X : Cx} {pos : Pos}
/-- the invariant W with its measure -/
def tWhile (c : TT) (tb : TS) : TS := fun D σ H => ∃ W : Nat → St → Hp → Prop, (∃ m, W m σ H) ∧ ∀ m σ H, W m σ H →
  c σ H fun b H1 => if b = true then ∃ N : St → Hp → Prop, (∀ σ' H', N σ' H' → ∃ m', m' < m ∧ W m' σ' H') ∧ tb { D with nx := N, ct := N, bk := D.nx } σ H1 else D.nx σ H1
theorem ps_while {c : Expr} {body : List Stmt} {tc : TT} {tb : TS} (hp : PassesOwn (model X.prog X.w) X.A X.env X.xe) (hc : PT X c tc) (hb : PSs X body tb) : PS X (.While c body [] pos) (tWhile tc tb) := by
  intro pins s σ H D I h
  obtain ⟨W, ⟨m0, w0⟩, turn⟩ := h
  refine wpAny_While (codeAny_whileLoop (fun n s' => ∃ σ' H', Inv X pins σ' H' s' ∧ W n σ' H') ?_ m0 ⟨σ, H, I, w0⟩)
  rintro n s1 ⟨σ1, H1, I1, w1⟩
  refine wpAny_passesOwn hp (thn (hc pins s1 σ1 H1 _ I1 (turn n σ1 H1 w1)) fun b s2 ⟨H2, I2, q2⟩ => ?_)
  cases b with
  | true =>
    obtain ⟨N, hN, q2⟩ := q2
    rw [if_pos rfl]
    refine wpAny_passesOwn hp (thn (hb pins s2 σ1 H2 _ I2 q2) fun f s3 q3 => ?_)
    cases f with
    | next =>
      obtain ⟨σ3, H3, I3, n3⟩ := q3
      obtain ⟨m', hm, w3⟩ := hN σ3 H3 n3
      exact ⟨m', hm, σ3, H3, I3, w3⟩
    | cont =>
      obtain ⟨σ3, H3, I3, n3⟩ := q3
      obtain ⟨m', hm, w3⟩ := hN σ3 H3 n3
      exact ⟨m', hm, σ3, H3, I3, w3⟩
    | brk => exact q3
    | ret v => exact q3
  | false =>
    rw [if_neg Bool.false_ne_true]
    exact wpAny_execs_nil ⟨σ1, H2, I2, q2⟩
end

/-! ### what a loop or a comprehension walks -/
/-- at turn i: it yields x (the heap may grow), or it stops -/
structure It where
  go : Nat → Hp → Prop
  yld : Nat → Hp → V → Hp → Prop
  stop : Nat → Hp → Prop
/-- the iterator's own objects may turn: they are not the frame's, not pinned, younger than the entry (or a comprehension's own) -/
def FpOk (X : Cx) (pins : List (Addr × Obj)) (H : Hp) (b : Addr) : Prop :=
  H b = none ∧ b ≠ X.env.locals ∧ b ∉ X.fs ∧ (b ∈ X.ex ∨ X.s₀.heap.objs.size ≤ b) ∧ (∀ x c, X.env.cells.lookup x = some c → c ≠ b) ∧ ∀ p ∈ X.pn ++ pins, p.1 ≠ b
theorem Inv.fpOk {X : Cx} {pins : List (Addr × Obj)} {σ : St} {H H' : Hp} {s : Shared} {b : Addr} (I : Inv X pins σ H s) (hb : s.heap.objs.size ≤ b) (hn : H' b = none) : FpOk X pins H' b := by
  refine ⟨hn, Nat.ne_of_gt (Nat.lt_of_lt_of_le I.lt hb), I.nofs hb, .inr (Nat.le_trans I.sz hb), fun x c e z => ?_, fun p hp z => ?_⟩
  · obtain ⟨v, q⟩ := I.cell x c e
    exact absurd (Nat.lt_of_lt_of_le q.lt (by rw [z]; exact hb)) (Nat.lt_irrefl _)
  · exact absurd (Nat.lt_of_lt_of_le (Heap.lt_size (I.pin p hp).1) (by rw [z]; exact hb)) (Nat.lt_irrefl _)
structure Turn (P : Program) (w : World) (K : PySem.W.Frag) (tg : Expr) (J : It) (fp : List Addr) (it : Addr) (tn : Nat → Heap → Prop) : Prop where
  mem : it ∈ fp
  obj : ∀ i h, tn i h → ∀ b ∈ fp, ∃ o, h.get? b = some o ∧ ∀ v, o.data ≠ .cell v
  keep : ∀ i h h', tn i h → (∀ b ∈ fp, ∀ o, h.get? b = some o → h'.get? b = some o) → tn i h'
  item : ∀ (X : Cx), X.prog = P → X.w = w → X.K = K → X.calm = true → ∀ (i : Nat) (pins : List (Addr × Obj)) (s : Shared) (σ : St) (H : Hp) (E : Value → Shared → Prop), Inv X pins σ H s → (∀ b ∈ fp, FpOk X pins H b) → tn i s.heap → J.go i H →
    wpAny (model P w) X.A (pyNext (.ref it)) (fun r s1 => ∃ u, r = some u ∧
      wpAny (model P w) X.A (letOwnedTupleGo tg (.ref it) u) (fun _ s2 => ∃ x H', Inv X pins σ H' s2 ∧ RelV x u ∧ J.yld i H x H' ∧ tn (i + 1) s2.heap ∧ ∀ b ∈ fp, H' b = none) E s1) E s
  done : ∀ (X : Cx), X.prog = P → X.w = w → X.K = K → X.calm = true → ∀ (i : Nat) (pins : List (Addr × Obj)) (s : Shared) (σ : St) (H : Hp) (E : Value → Shared → Prop), Inv X pins σ H s → (∀ b ∈ fp, FpOk X pins H b) → tn i s.heap → J.stop i H →
    wpAny (model P w) X.A (pyNext (.ref it)) (fun r s1 => r = none ∧ Inv X pins σ H s1) E s
  self : ∀ (A : Around) (i : Nat) (s : Shared) (Q : Value → Shared → Prop) (E : Value → Shared → Prop), tn i s.heap → Q (.ref it) s → wpAny (model P w) A (pyIter (.ref it)) Q E s
abbrev TI := St → Hp → (It → Hp → Prop) → Prop
/-- an iterator has come -/
def PIE (X : Cx) (pins : List (Addr × Obj)) (σ : St) (tg : Expr) (R : It → Hp → Prop) (itv : Value) (s2 : Shared) : Prop :=
  ∃ (it : Addr) (fp : List Addr) (tn : Nat → Heap → Prop) (J : It) (H' : Hp), itv = .ref it ∧ Inv X pins σ H' s2 ∧ Turn X.prog X.w X.K tg J fp it tn ∧ tn 0 s2.heap ∧ (∀ b ∈ fp, FpOk X pins H' b) ∧ R J H'
def PI (X : Cx) (tg iter : Expr) (wi : TI) : Prop :=
  ∀ (pins : List (Addr × Obj)) (s : Shared) (σ : St) (H : Hp) (R : It → Hp → Prop), Inv X pins σ H s → wi σ H R →
    wpAny (model X.prog X.w) X.A (eval iter X.env) (fun v s1 => wpAny (model X.prog X.w) X.A (pyIter v) (PIE X pins σ tg R) X.xe s1) X.xe s

/-- the step ahead of the store is nothing for an iterator that keeps no tuple -/
theorem go_of {M : Model} {A : Around} {E : Value → Shared → Prop} {s : Shared} {tg : Expr} {it : Addr} {u : Value} {o : Obj} {n : String} {vs : Array Value} {Q : Unit → Shared → Prop} (ho : s.heap.get? it = some o) (hc : o.cls = .type n) (hd : o.data = .fields vs)
    (hn : ["enumerate", "zip", "dict_itemiterator", "dict_reverseitemiterator", "odict_iterator", "itertools.zip_longest", "itertools.pairwise"].contains n = false) (hQ : Q () s) : wpAny M A (letOwnedTupleGo tg (.ref it) u) Q E s := by
  unfold letOwnedTupleGo
  cases tg <;> first
    | exact wpAny_pure hQ
    | (cases u <;> first
        | exact wpAny_pure hQ
        | (refine wpAny_bind (wpAny_load ho ?_)
           rw [hc, hd]
           show wpAny M A (if (["enumerate", "zip", "dict_itemiterator", "dict_reverseitemiterator", "odict_iterator", "itertools.zip_longest", "itertools.pairwise"].contains n && vs[0]? == some (rawInt _)) = true then _ else _) Q E s
           rw [if_neg (by intro h; rw [hn, Bool.false_and] at h; cases h)]
           exact wpAny_pure hQ))

/-- the list at a, as it stands at each turn (a loop may append to it) -/
def Itl (K : PySem.W.Frag) (a : Addr) : It :=
  ⟨fun i H => ∃ xs x, SqL K H a xs ∧ xs[i]? = some x, fun i H x H' => H' = H ∧ ∀ xs, SqL K H a xs → xs[i]? = some x, fun i H => ∃ xs, SqL K H a xs ∧ xs.length ≤ i⟩
def Itt (K : PySem.W.Frag) (a : Addr) : It :=
  ⟨fun i H => ∃ xs x, SqT K H a xs ∧ xs[i]? = some x, fun i H x H' => H' = H ∧ ∀ xs, SqT K H a xs → xs[i]? = some x, fun i H => ∃ xs, SqT K H a xs ∧ xs.length ≤ i⟩
/-- lo, lo + 1, .. (n of them) -/
def Itr (lo : Int) (n : Nat) : It := ⟨fun i _ => i < n, fun i H x H' => H' = H ∧ x = .int (lo + i), fun i _ => n ≤ i⟩
theorem turn_list {P : Program} {w : World} {K : PySem.W.Frag} {tg : Expr} (a it : Addr) : Turn P w K tg (Itl K a) [it] it (fun i h => h.IsListIter it a i) where
  mem := by simp
  obj := fun i h st b hb => by
    have e : b = it := by simpa using hb
    subst e
    obtain ⟨o, e, c, d⟩ := st
    exact ⟨o, e, fun v z => by rw [d] at z; cases z⟩
  keep := fun i h h' st k => st.at fun o e => k it (by simp) o e
  item := by
    intro X hP hw hK hc i pins s σ H E I hf st hg
    subst hP hw hK
    obtain ⟨xs, x, hq, hx⟩ := hg
    obtain ⟨its, rv, p, hz⟩ := I.list hq
    obtain ⟨u, hu, ru⟩ := rv.get hx
    obtain ⟨f0, f1, f2, f3, f4, f5⟩ := hf it (by simp)
    refine wpAny_pyNext_list_item st p.isList (x := u) (by simpa using hu) fun h' st' sb => ?_
    have I1 : Inv X pins σ H { s with heap := h' } := I.turned (t' := s.toks) (fun b o hb e => (sb.2 b hb).trans e) f0 f1 f3 f4 f5
    obtain ⟨o, e, c, d⟩ := id st'
    exact ⟨u, rfl, go_of (s := { s with heap := h' }) e c d (by decide) ⟨x, H, I1, ru, ⟨rfl, fun ys hy => by rw [I.list_inj hy hq]; exact hx⟩, st', fun b hb => (hf b hb).1⟩⟩
  done := by
    intro X hP hw hK hc i pins s σ H E I hf st hg
    subst hP hw hK
    obtain ⟨xs, hq, hx⟩ := hg
    obtain ⟨its, rv, p, hz⟩ := I.list hq
    obtain ⟨f0, f1, f2, f3, f4, f5⟩ := hf it (by simp)
    have hl := rv.length
    exact wpAny_pyNext_list_end (I.ok.hd hc) st p.isList (by simp; omega) fun h' eb => ⟨rfl, I.turned (t' := s.toks) (fun b o hb e => eb b o hb e) f0 f1 f3 f4 f5⟩
  self := fun _ _ _ _ _ st h => wpAny_pyIter_listiter st h
theorem turn_tuple {P : Program} {w : World} {K : PySem.W.Frag} {tg : Expr} (a it : Addr) : Turn P w K tg (Itt K a) [it] it (fun i h => h.IsTupleIter it a i) where
  mem := by simp
  obj := fun i h st b hb => by
    have e : b = it := by simpa using hb
    subst e
    obtain ⟨o, e, c, d⟩ := st
    exact ⟨o, e, fun v z => by rw [d] at z; cases z⟩
  keep := fun i h h' st k => st.at fun o e => k it (by simp) o e
  item := by
    intro X hP hw hK hc i pins s σ H E I hf st hg
    subst hP hw hK
    obtain ⟨xs, x, hq, hx⟩ := hg
    obtain ⟨its, rv, p, hz⟩ := I.tuple hq
    obtain ⟨u, hu, ru⟩ := rv.get hx
    obtain ⟨f0, f1, f2, f3, f4, f5⟩ := hf it (by simp)
    refine wpAny_pyNext_tuple_item st (show s.heap.IsTuple a its.toArray from p) (x := u) (by simpa using hu) fun h' st' sb => ?_
    have I1 : Inv X pins σ H { s with heap := h' } := I.turned (t' := s.toks) (fun b o hb e => (sb.2 b hb).trans e) f0 f1 f3 f4 f5
    obtain ⟨o, e, c, d⟩ := id st'
    exact ⟨u, rfl, go_of (s := { s with heap := h' }) e c d (by decide) ⟨x, H, I1, ru, ⟨rfl, fun ys hy => by rw [I.tuple_inj hy hq]; exact hx⟩, st', fun b hb => (hf b hb).1⟩⟩
  done := by
    intro X hP hw hK hc i pins s σ H E I hf st hg
    subst hP hw hK
    obtain ⟨xs, hq, hx⟩ := hg
    obtain ⟨its, rv, p, hz⟩ := I.tuple hq
    obtain ⟨f0, f1, f2, f3, f4, f5⟩ := hf it (by simp)
    have hl := rv.length
    exact wpAny_pyNext_tuple_end (I.ok.hd hc) st (show s.heap.IsTuple a its.toArray from p) (by simp; omega) fun h' eb => ⟨rfl, I.turned (t' := s.toks) (fun b o hb e => eb b o hb e) f0 f1 f3 f4 f5⟩
  self := fun _ _ _ _ _ st h => wpAny_pyIter_tupleiter st h
theorem turn_range {P : Program} {w : World} {K : PySem.W.Frag} {tg : Expr} (it : Addr) (lo : Int) (n : Nat) : Turn P w K tg (Itr lo n) [it] it (fun i h => IsRangeIter h it (lo + (i : Nat) * 1) ((n : Int) - (i : Nat)) 1) where
  mem := by simp
  obj := fun i h st b hb => by
    have e : b = it := by simpa using hb
    subst e
    exact ⟨_, st, fun v z => by
      have z' : Data.fields _ = Data.cell v := z
      cases z'⟩
  keep := fun i h h' st k => k it (by simp) _ st
  item := by
    intro X hP hw hK hc i pins s σ H E I hf st hg
    subst hP hw hK
    obtain ⟨f0, f1, f2, f3, f4, f5⟩ := hf it (by simp)
    have W := Walks.range (prog := X.prog) (w := X.w) (I.ok.hd hc) it lo 1 n
    refine W.item i s _ _ hg st fun v h' tk hv st' kk => ?_
    obtain ⟨t, rfl⟩ := hv
    have I1 : Inv X pins σ H { s with heap := h', toks := tk } := I.turned (fun b o hb e => kk b o (by simpa using hb) e) f0 f1 f3 f4 f5
    refine ⟨_, rfl, go_of (s := { s with heap := h', toks := tk }) (n := "range_iterator") st' rfl rfl (by decide) ⟨.int (lo + i), H, I1, ⟨t, ?_⟩, ⟨rfl, rfl⟩, st', fun b hb => (hf b hb).1⟩⟩
    rw [Int.mul_one]
  done := by
    intro X hP hw hK hc i pins s σ H E I hf st hg
    subst hP hw hK
    obtain ⟨f0, f1, f2, f3, f4, f5⟩ := hf it (by simp)
    exact wpAny_pyNext_range_end (I.ok.hd hc) st (by have : n ≤ i := hg; omega) fun h' eb => ⟨rfl, I.turned (t' := s.toks) (fun b o hb e => eb b o hb e) f0 f1 f3 f4 f5⟩
  self := fun _ _ _ _ _ st h => wpAny_pyIter_rangeiter st h
end L2

namespace L2
open PySem PySem.Spec PyProof.Rows
section
variable {X : Cx} {tg : Expr}
def iList (K : PySem.W.Frag) (tl : TE) : TI := fun σ H R => tl σ H fun x H1 => ∃ a, x = .ref a ∧ (∃ xs, SqL K H1 a xs) ∧ R (Itl K a) H1
def iTup (K : PySem.W.Frag) (tl : TE) : TI := fun σ H R => tl σ H fun x H1 => ∃ a, x = .ref a ∧ (∃ xs, SqT K H1 a xs) ∧ R (Itt K a) H1
theorem pi_list {l : Expr} {tl : TE} (hl : PE X l tl) : PI X tg l (iList X.K tl) := by
  intro pins s σ H R I h
  refine thn (hl pins s σ H _ I h) fun v s1 ⟨x, H1, I1, r1, q1⟩ => ?_
  obtain ⟨a, e, ⟨xs, hq⟩, q⟩ := q1
  subst e
  cases r1
  obtain ⟨its, rv, p, hz⟩ := I1.list hq
  refine wpAny_pyIter_list p.isList ?_
  refine ⟨s1.heap.objs.size, [s1.heap.objs.size], _, _, H1, rfl, I1.kept (t' := s1.toks) fun b o e => Heap.get?_push_of_some _ e, turn_list a _, ⟨_, Heap.get?_push_size _ rfl, rfl, rfl⟩, fun b hb => ?_, q⟩
  have e : b = s1.heap.objs.size := by simpa using hb
  subst e
  exact I1.fpOk (Nat.le_refl _) (I1.hok.fresh (Nat.le_refl _))
theorem pi_tup {l : Expr} {tl : TE} (hl : PE X l tl) : PI X tg l (iTup X.K tl) := by
  intro pins s σ H R I h
  refine thn (hl pins s σ H _ I h) fun v s1 ⟨x, H1, I1, r1, q1⟩ => ?_
  obtain ⟨a, e, ⟨xs, hq⟩, q⟩ := q1
  subst e
  cases r1
  obtain ⟨its, rv, p, hz⟩ := I1.tuple hq
  refine wpAny_pyIter_tuple (show s1.heap.IsTuple a its.toArray from p) ?_
  refine ⟨s1.heap.objs.size, [s1.heap.objs.size], _, _, H1, rfl, I1.kept (t' := s1.toks) fun b o e => Heap.get?_push_of_some _ e, turn_tuple a _, ⟨_, Heap.get?_push_size _ rfl, rfl, rfl⟩, fun b hb => ?_, q⟩
  have e : b = s1.heap.objs.size := by simpa using hb
  subst e
  exact I1.fpOk (Nat.le_refl _) (I1.hok.fresh (Nat.le_refl _))
/-- a range object just made, walked -/
theorem range_it {pins : List (Addr × Obj)} {σ : St} {H : Hp} {s : Shared} {R : It → Hp → Prop} {E : Value → Shared → Prop} {lo hi : Int} {t u v : Tok} {tk : Nat} (I : Inv X pins σ H s) (h1 : -(2 ^ 62) ≤ lo) (h2 : lo < 2 ^ 62) (h3 : -(2 ^ 62) ≤ hi) (h4 : hi < 2 ^ 62)
    (q : R (Itr lo (hi - lo).toNat) H) : wpAny (model X.prog X.w) X.A (pyIter (.ref s.heap.objs.size)) (PIE X pins σ tg R) E { s with heap := s.heap.push { cls := .type "range", data := .fields #[.int lo t, .int hi u, .int 1 v] }, toks := tk } := by
  refine wpAny_pyIter_range (IsRange.new ..) (small_one h1 h2 h3 h4) ?_
  have I1 : Inv X pins σ H { s with heap := s.heap.push { cls := .type "range", data := .fields #[.int lo t, .int hi u, .int 1 v] }, toks := tk } := I.kept fun b o e => Heap.get?_push_of_some _ e
  refine ⟨(s.heap.push { cls := .type "range", data := .fields #[.int lo t, .int hi u, .int 1 v] }).objs.size, [(s.heap.push { cls := .type "range", data := .fields #[.int lo t, .int hi u, .int 1 v] }).objs.size], _, _, H, rfl,
    I1.kept (t' := tk) fun b o e => Heap.get?_push_of_some _ e, turn_range _ lo (hi - lo).toNat, ?_, fun b hb => ?_, q⟩
  · have e1 : lo + ((0 : Nat) : Int) * 1 = lo := by simp
    have e2 : (((hi - lo).toNat : Nat) : Int) - ((0 : Nat) : Int) = Builtin.Range.rangeSize lo hi 1 := by rw [rangeSize_one]; split <;> omega
    show IsRangeIter _ _ (lo + ((0 : Nat) : Int) * 1) ((((hi - lo).toNat : Nat) : Int) - ((0 : Nat) : Int)) 1
    rw [e1, e2]
    exact Heap.get?_push_size _ rfl
  · have e : b = (s.heap.push { cls := .type "range", data := .fields #[.int lo t, .int hi u, .int 1 v] }).objs.size := by simpa using hb
    subst e
    exact I1.fpOk (Nat.le_refl _) (I1.hok.fresh (Nat.le_refl _))
def iRng1 (ta : TA) : TI := fun σ H R => ta σ H fun vs H1 => ∃ j : Int, vs = [.int j] ∧ -(2 ^ 62) ≤ j ∧ j < 2 ^ 62 ∧ R (Itr 0 j.toNat) H1
def iRng2 (ta : TA) : TI := fun σ H R => ta σ H fun vs H1 => ∃ i j : Int, vs = [.int i, .int j] ∧ (-(2 ^ 62) ≤ i ∧ i < 2 ^ 62 ∧ -(2 ^ 62) ≤ j ∧ j < 2 ^ 62) ∧ R (Itr i (j - i).toNat) H1
theorem pi_range1 {a : Expr} {ta : TA} {p pos : Pos} (hg : Gl X "range") (hm : X.mg "range" = none) (ha : PA X [a] ta) (hs : starEach [a] X.env = [(false, eval a X.env)] := by rfl) : PI X tg (.Call (.Name "range" p) [a] [] pos) (iRng1 ta) := by
  intro pins s σ H R I h
  refine Call_ (ld_blt I hg hm boot_range (PyProof.Rows.callWith_type1 (thn (ha pos pins s σ H _ I h) fun us s1 ⟨vs, H1, I1, r1, q1⟩ => ?_) hs rfl))
  obtain ⟨j, e, q1, q2, q⟩ := q1
  subst e
  cases r1 with
  | cons r rr =>
    cases rr
    obtain ⟨t, rfl⟩ := r
    exact call_range_1 (range_it I1 (by omega) (by omega) q1 q2 (by simpa using q))
theorem pi_range2 {a b : Expr} {ta : TA} {p pos : Pos} (hg : Gl X "range") (hm : X.mg "range" = none) (ha : PA X [a, b] ta) (hs : starEach [a, b] X.env = [(false, eval a X.env), (false, eval b X.env)] := by rfl) (hs2 : starEach [b] X.env = [(false, eval b X.env)] := by rfl) :
    PI X tg (.Call (.Name "range" p) [a, b] [] pos) (iRng2 ta) := by
  intro pins s σ H R I h
  refine Call_ (ld_blt I hg hm boot_range (PyProof.Rows.callWith_type1 (thn (ha pos pins s σ H _ I h) fun us s1 ⟨vs, H1, I1, r1, q1⟩ => ?_) (by rw [hs, hs2]) (by rw [hs2]; rfl)))
  obtain ⟨i, j, e, ⟨q1, q2, q3, q4⟩, q⟩ := q1
  subst e
  cases r1 with
  | cons r rr =>
    cases rr with
    | cons r' rr =>
      cases rr
      obtain ⟨t, rfl⟩ := r
      obtain ⟨t', rfl⟩ := r'
      exact call_range_2 (range_it I1 q1 q2 q3 q4 q)

/-! ### for -/
/-- W: the invariant by the turn and a measure; N: what the body is to reach -/
def tFor (wi : TI) (g : TG) (tb : TS) : TS := fun D σ H => wi σ H fun J H1 => ∃ W : Nat → Nat → St → Hp → Prop, (∃ m, W 0 m σ H1) ∧ ∀ i m σ H, W i m σ H →
  (J.stop i H ∧ D.nx σ H) ∨ (J.go i H ∧ ∃ N : St → Hp → Prop, (∀ σ' H', N σ' H' → ∃ m', m' < m ∧ W (i + 1) m' σ' H') ∧ ∀ x H', J.yld i H x H' → g x σ H' fun σ2 H2 => tb { D with nx := N, ct := N, bk := D.nx } σ2 H2)
/-- the records at fp as they stand -/
def pinsAt (fp : List Addr) (h : Heap) : List (Addr × Obj) := fp.filterMap fun b => (h.get? b).map fun o => (b, o)
theorem mem_pinsAt {fp : List Addr} {h : Heap} {b : Addr} {o : Obj} (hb : b ∈ fp) (e : h.get? b = some o) : (b, o) ∈ pinsAt fp h := List.mem_filterMap.mpr ⟨b, hb, by rw [e]; rfl⟩
theorem of_pinsAt {fp : List Addr} {h : Heap} {p : Addr × Obj} (hp : p ∈ pinsAt fp h) : p.1 ∈ fp ∧ h.get? p.1 = some p.2 := by
  obtain ⟨b, hb, e⟩ := List.mem_filterMap.mp hp
  cases q : h.get? b with
  | none => rw [q] at e; cases e
  | some o =>
    rw [q] at e
    have e' : (b, o) = p := Option.some.inj e
    subst e'
    exact ⟨hb, q⟩
theorem Inv.pinned {pins : List (Addr × Obj)} {σ : St} {H : Hp} {s : Shared} {fp : List Addr} (I : Inv X pins σ H s) (hf : ∀ b ∈ fp, FpOk X pins H b) (ho : ∀ b ∈ fp, ∃ o, s.heap.get? b = some o ∧ ∀ v, o.data ≠ .cell v) : Inv X (pins ++ pinsAt fp s.heap) σ H s :=
  I.pins_of fun p hp => (List.mem_append.mp hp).elim (fun z => I.pin p (List.mem_append_right _ z)) fun z => by
    obtain ⟨hb, e⟩ := of_pinsAt z
    obtain ⟨f0, f1, f2, _⟩ := hf p.1 hb
    obtain ⟨o, e', d⟩ := ho p.1 hb
    rw [e] at e'; cases e'
    exact ⟨e, f0, f1, f2, d⟩
theorem Inv.unpinned {pins pl : List (Addr × Obj)} {σ : St} {H : Hp} {s : Shared} (I : Inv X (pins ++ pl) σ H s) : Inv X pins σ H s := I.pins_of fun p hp => I.pin p (List.mem_append_right _ (List.mem_append_left _ hp))
theorem ps_for {iter : Expr} {body : List Stmt} {wi : TI} {g : TG} {tb : TS} {pos : Pos} (hp : PassesOwn (model X.prog X.w) X.A X.env X.xe) (hc : X.calm = true) (hi : PI X tg iter wi) (hg : PG X tg g) (hb : PSs X body tb)
    (hs : ∀ x, foldedSetIterable iter X.env x = pure x := by intro _; rfl) : PS X (.For tg iter body [] pos) (tFor wi g tb) := by
  intro pins s σ H D I h
  refine wpAny_For (thn (hi pins s σ H _ I h) fun v s1 h1 => thn h1 fun itv s2 h2 => ?_) hs
  obtain ⟨it, fp, tn, J, H2, e, I2, T, st2, f2, W, ⟨m0, w0⟩, turn⟩ := h2
  subst e
  -- what stays true of the iterator's objects through the loop
  have stat : ∀ {H' : Hp}, (∀ b ∈ fp, H' b = none) → ∀ b ∈ fp, FpOk X pins H' b := fun hn b hb => ⟨hn b hb, (f2 b hb).2⟩
  refine codeAny_forLoop_any (fun n s' => ∃ i σ' H', Inv X pins σ' H' s' ∧ tn i s'.heap ∧ (∀ b ∈ fp, H' b = none) ∧ W i n σ' H') ?_ m0 ⟨0, σ, H2, I2, st2, fun b hb => (f2 b hb).1, w0⟩
  rintro n s3 ⟨i, σ3, H3, I3, st3, fr3, w3⟩
  rcases turn i n σ3 H3 w3 with ⟨stop, qn⟩ | ⟨go, N, hN, step⟩
  · refine wpAny_passesOwn hp (thn (T.done X rfl rfl rfl hc i pins s3 σ3 H3 X.xe I3 (stat fr3) st3 stop) fun r s4 ⟨hr, I4⟩ => ?_)
    subst hr
    exact wpAny_execs_nil ⟨σ3, H3, I4, qn⟩
  · refine wpAny_passesOwn hp (thn (T.item X rfl rfl rfl hc i pins s3 σ3 H3 X.xe I3 (stat fr3) st3 go) fun r s4 ⟨u, hr, h4⟩ => ?_)
    subst hr
    refine wpAny_passesOwn hp (thn h4 fun _ s5 ⟨x, H5, I5, r5, y5, st5, fr5⟩ => ?_)
    have I5' := I5.pinned (stat fr5) (T.obj _ _ st5)
    refine wpAny_passesOwn hp (thn (hg _ s5 σ3 H5 x u _ I5' r5 (step x H5 y5)) fun _ s6 ⟨σ6, H6, I6, q6⟩ => ?_)
    refine wpAny_passesOwn hp (thn (hb _ s6 σ6 H6 _ I6 q6) fun f s7 q7 => ?_)
    have again : ∀ {σ7 : St} {H7 : Hp}, Inv X (pins ++ pinsAt fp s5.heap) σ7 H7 s7 → N σ7 H7 → ∃ m, m < n ∧ ∃ i σ' H', Inv X pins σ' H' s7 ∧ tn i s7.heap ∧ (∀ b ∈ fp, H' b = none) ∧ W i m σ' H' := fun {σ7 H7} I7 n7 => by
      obtain ⟨m', hm, w7⟩ := hN σ7 H7 n7
      refine ⟨m', hm, i + 1, σ7, H7, I7.unpinned, T.keep _ _ _ st5 fun b hb o e => (I7.pin (b, o) (List.mem_append_right _ (List.mem_append_right _ (mem_pinsAt hb e)))).1, fun b hb => ?_, w7⟩
      obtain ⟨o, e, d⟩ := T.obj _ _ st5 b hb
      exact (I7.pin (b, o) (List.mem_append_right _ (List.mem_append_right _ (mem_pinsAt hb e)))).2.1
    cases f with
    | next => obtain ⟨σ7, H7, I7, n7⟩ := q7; exact again I7 n7
    | cont => obtain ⟨σ7, H7, I7, n7⟩ := q7; exact again I7 n7
    | brk => obtain ⟨σ7, H7, I7, q7⟩ := q7; exact ⟨σ7, H7, I7.unpinned, q7⟩
    | ret v => obtain ⟨x7, σ7, H7, I7, r7, q7⟩ := q7; exact ⟨x7, σ7, H7, I7.unpinned, r7, q7⟩
end

/-! ### the forms one uses -/
/-- over a list that the body leaves as it is -/
theorem for_list {K : PySem.W.Frag} {a : Addr} {xs : List V} {g : TG} {tb : TS} {D : Ends} {σ : St} {H : Hp} (Pv : Nat → St → Hp → Prop) (h0 : Pv 0 σ H) (hl : ∀ i σ H, i ≤ xs.length → Pv i σ H → SqL K H a xs)
    (hs : ∀ i x σ H, xs[i]? = some x → Pv i σ H → g x σ H fun σ2 H2 => tb { D with nx := Pv (i + 1), ct := Pv (i + 1), bk := D.nx } σ2 H2) (hd : ∀ σ H, Pv xs.length σ H → D.nx σ H) :
    ∃ W : Nat → Nat → St → Hp → Prop, (∃ m, W 0 m σ H) ∧ ∀ i m σ H, W i m σ H →
      ((Itl K a).stop i H ∧ D.nx σ H) ∨ ((Itl K a).go i H ∧ ∃ N : St → Hp → Prop, (∀ σ' H', N σ' H' → ∃ m', m' < m ∧ W (i + 1) m' σ' H') ∧ ∀ x H', (Itl K a).yld i H x H' → g x σ H' fun σ2 H2 => tb { D with nx := N, ct := N, bk := D.nx } σ2 H2) := by
  refine ⟨fun i m σ H => m = xs.length - i ∧ i ≤ xs.length ∧ Pv i σ H, ⟨xs.length, by simp, Nat.zero_le _, h0⟩, ?_⟩
  rintro i m σ H ⟨rfl, hi, p⟩
  have q := hl i σ H hi p
  by_cases hlt : i < xs.length
  · refine .inr ⟨⟨xs, xs[i], q, by simp [hlt]⟩, Pv (i + 1), fun σ' H' p' => ⟨xs.length - (i + 1), by omega, rfl, hlt, p'⟩, fun x H' y => ?_⟩
    obtain ⟨e, y⟩ := y
    subst e
    exact hs i x σ _ (y xs q) p
  · have e : i = xs.length := by omega
    subst e
    exact .inl ⟨⟨xs, q, Nat.le_refl _⟩, hd σ H p⟩
theorem for_tup {K : PySem.W.Frag} {a : Addr} {xs : List V} {g : TG} {tb : TS} {D : Ends} {σ : St} {H : Hp} (Pv : Nat → St → Hp → Prop) (h0 : Pv 0 σ H) (hl : ∀ i σ H, i ≤ xs.length → Pv i σ H → SqT K H a xs)
    (hs : ∀ i x σ H, xs[i]? = some x → Pv i σ H → g x σ H fun σ2 H2 => tb { D with nx := Pv (i + 1), ct := Pv (i + 1), bk := D.nx } σ2 H2) (hd : ∀ σ H, Pv xs.length σ H → D.nx σ H) :
    ∃ W : Nat → Nat → St → Hp → Prop, (∃ m, W 0 m σ H) ∧ ∀ i m σ H, W i m σ H →
      ((Itt K a).stop i H ∧ D.nx σ H) ∨ ((Itt K a).go i H ∧ ∃ N : St → Hp → Prop, (∀ σ' H', N σ' H' → ∃ m', m' < m ∧ W (i + 1) m' σ' H') ∧ ∀ x H', (Itt K a).yld i H x H' → g x σ H' fun σ2 H2 => tb { D with nx := N, ct := N, bk := D.nx } σ2 H2) := by
  refine ⟨fun i m σ H => m = xs.length - i ∧ i ≤ xs.length ∧ Pv i σ H, ⟨xs.length, by simp, Nat.zero_le _, h0⟩, ?_⟩
  rintro i m σ H ⟨rfl, hi, p⟩
  have q := hl i σ H hi p
  by_cases hlt : i < xs.length
  · refine .inr ⟨⟨xs, xs[i], q, by simp [hlt]⟩, Pv (i + 1), fun σ' H' p' => ⟨xs.length - (i + 1), by omega, rfl, hlt, p'⟩, fun x H' y => ?_⟩
    obtain ⟨e, y⟩ := y
    subst e
    exact hs i x σ _ (y xs q) p
  · have e : i = xs.length := by omega
    subst e
    exact .inl ⟨⟨xs, q, Nat.le_refl _⟩, hd σ H p⟩
theorem for_range {lo : Int} {n : Nat} {g : TG} {tb : TS} {D : Ends} {σ : St} {H : Hp} (Pv : Nat → St → Hp → Prop) (h0 : Pv 0 σ H)
    (hs : ∀ i σ H, i < n → Pv i σ H → g (.int (lo + i)) σ H fun σ2 H2 => tb { D with nx := Pv (i + 1), ct := Pv (i + 1), bk := D.nx } σ2 H2) (hd : ∀ σ H, Pv n σ H → D.nx σ H) :
    ∃ W : Nat → Nat → St → Hp → Prop, (∃ m, W 0 m σ H) ∧ ∀ i m σ H, W i m σ H →
      ((Itr lo n).stop i H ∧ D.nx σ H) ∨ ((Itr lo n).go i H ∧ ∃ N : St → Hp → Prop, (∀ σ' H', N σ' H' → ∃ m', m' < m ∧ W (i + 1) m' σ' H') ∧ ∀ x H', (Itr lo n).yld i H x H' → g x σ H' fun σ2 H2 => tb { D with nx := N, ct := N, bk := D.nx } σ2 H2) := by
  refine ⟨fun i m σ H => m = n - i ∧ i ≤ n ∧ Pv i σ H, ⟨n, by simp, Nat.zero_le _, h0⟩, ?_⟩
  rintro i m σ H ⟨rfl, hi, p⟩
  by_cases hlt : i < n
  · refine .inr ⟨hlt, Pv (i + 1), fun σ' H' p' => ⟨n - (i + 1), by omega, rfl, hlt, p'⟩, fun x H' y => ?_⟩
    obtain ⟨e, y⟩ := y
    subst e y
    exact hs i σ _ hlt p
  · have e : i = n := by omega
    subst e
    exact .inl ⟨Nat.le_refl _, hd σ H p⟩
/-- while, by a word and a measure of the state -/
theorem while_by {c : TT} {tb : TS} {D : Ends} {σ : St} {H : Hp} (Pv : St → Hp → Prop) (μ : St → Hp → Nat) (h0 : Pv σ H)
    (hs : ∀ σ H, Pv σ H → c σ H fun b H1 => if b = true then tb { D with nx := fun σ' H' => Pv σ' H' ∧ μ σ' H' < μ σ H, ct := fun σ' H' => Pv σ' H' ∧ μ σ' H' < μ σ H, bk := D.nx } σ H1 else D.nx σ H1)
    (mono : ∀ σ H Q Q', (∀ b H1, Q b H1 → Q' b H1) → c σ H Q → c σ H Q') : tWhile c tb D σ H := by
  refine ⟨fun m σ H => m = μ σ H ∧ Pv σ H, ⟨_, rfl, h0⟩, ?_⟩
  rintro m σ H ⟨rfl, p⟩
  refine mono σ H _ _ (fun b H1 q => ?_) (hs σ H p)
  cases b with
  | true => exact ⟨_, fun σ' H' ⟨p', l⟩ => ⟨_, l, rfl, p'⟩, q⟩
  | false => exact q
end L2

namespace L2
open PySem PySem.Spec PyProof.Rows

abbrev R2 := V → V → Hp → VK → Prop
/-- a two-place operation on values: f is binaryOp op, inplaceOp op or compareOp op -/
def OpR (X : Cx) (f : Value → Value → Sem Value) (r : R2) : Prop :=
  ∀ (pins : List (Addr × Obj)) (s : Shared) (σ : St) (H : Hp) (x y : V) (v u : Value) (Q : VK), Inv X pins σ H s → RelV x v → RelV y u → r x y H Q →
    wpAny (model X.prog X.w) X.A (f v u) (EP X pins σ Q) X.xe s
/-- a one-place operation -/
def UnR (X : Cx) (f : Value → Sem Value) (r : V → Hp → VK → Prop) : Prop :=
  ∀ (pins : List (Addr × Obj)) (s : Shared) (σ : St) (H : Hp) (x : V) (v : Value) (Q : VK), Inv X pins σ H s → RelV x v → r x H Q →
    wpAny (model X.prog X.w) X.A (f v) (EP X pins σ Q) X.xe s
/-- a call of a value that is known (a builtin, a type) with values -/
def CallR (X : Cx) (f : Value) (r : List V → Hp → VK → Prop) : Prop :=
  ∀ (pins : List (Addr × Obj)) (s : Shared) (σ : St) (H : Hp) (xs : List V) (us : List Value) (Q : VK), Inv X pins σ H s → Vals xs us → r xs H Q →
    wpAny (model X.prog X.w) X.A (call f us) (EP X pins σ Q) X.xe s
/-- a value's truth -/
def TruR (X : Cx) (r : V → Hp → (Bool → Hp → Prop) → Prop) : Prop :=
  ∀ (pins : List (Addr × Obj)) (s : Shared) (σ : St) (H : Hp) (x : V) (v : Value) (Q : Bool → Hp → Prop), Inv X pins σ H s → RelV x v → r x H Q →
    wpAny (model X.prog X.w) X.A (truthy v) (TP X pins σ Q) X.xe s

def tOp (r : R2) (ta tb : TE) : TE := fun σ H Q => ta σ H fun x H1 => tb σ H1 fun y H2 => r x y H2 Q
def tUn (r : V → Hp → VK → Prop) (ta : TE) : TE := fun σ H Q => ta σ H fun x H1 => r x H1 Q
/-- ints in, under C, and a value out -/
def rI (C : Int → Int → Prop) (g : Int → Int → V) : R2 := fun x y H Q => ∃ i j, x = .int i ∧ y = .int j ∧ C i j ∧ Q (g i j) H
def rI0 (g : Int → Int → V) : R2 := fun x y H Q => ∃ i j, x = .int i ∧ y = .int j ∧ Q (g i j) H
def rU (g : Int → V) : V → Hp → VK → Prop := fun x H Q => ∃ i, x = .int i ∧ Q (g i) H

section
variable {X : Cx} {a b c : Expr} {ta tb tc : TE} {pos : Pos}

theorem binT (ha : PE X a ta) (hb : PE X b tb) {pins : List (Addr × Obj)} {s : Shared} {σ : St} {H : Hp} {R : V → V → Hp → Prop} (I : Inv X pins σ H s)
    (h : ta σ H fun x H1 => tb σ H1 fun y H2 => R x y H2) {Q : Value → Shared → Prop} {f : Value → Value → Sem Value}
    (hf : ∀ v u s2 x y H2, Inv X pins σ H2 s2 → RelV x v → RelV y u → R x y H2 → wpAny (model X.prog X.w) X.A (f v u) Q X.xe s2) :
    wpAny (model X.prog X.w) X.A (eval a X.env) (fun v s₁ => wpAny (model X.prog X.w) X.A (eval b X.env) (fun u s₂ => wpAny (model X.prog X.w) X.A (f v u) Q X.xe s₂) X.xe s₁) X.xe s := by
  refine thn (ha pins s σ H _ I h) fun v s1 ⟨x, H1, I1, r1, q1⟩ => ?_
  refine thn (hb pins s1 σ H1 _ I1 q1) fun u s2 ⟨y, H2, I2, r2, q2⟩ => ?_
  exact hf v u s2 x y H2 I2 r1 r2 q2

theorem pe_op {op : Operator} {r : R2} (ho : OpR X (binaryOp op) r) (ha : PE X a ta) (hb : PE X b tb) : PE X (.BinOp a op b pos) (tOp r ta tb) := by
  intro pins s σ H Q I h
  exact wpAny_BinOp (binT ha hb I h fun v u s2 x y H2 I2 rx ry q => ho pins s2 σ H2 x y v u Q I2 rx ry q)
theorem pe_un {op : UnaryOp} {r : V → Hp → VK → Prop} (ho : UnR X (unaryOp op) r) (ha : PE X a ta) : PE X (.UnaryOp op a pos) (tUn r ta) := by
  intro pins s σ H Q I h
  exact UnaryOp_ (thn (ha pins s σ H _ I h) fun v s1 ⟨x, H1, I1, r1, q1⟩ => ho pins s1 σ H1 x v Q I1 r1 q1)
/-- a op= e at a name: the name's slot i -/
theorem augR {op : Operator} {r : R2} (ho : OpR X (inplaceOp op) r) {pins : List (Addr × Obj)} {s : Shared} {σ : St} {H : Hp} {x y : V} {v u : Value} {Q : VK} (I : Inv X pins σ H s)
    (rx : RelV x v) (ry : RelV y u) (q : r x y H Q) : wpAny (model X.prog X.w) X.A (inplaceOp op v u) (EP X pins σ Q) X.xe s := ho pins s σ H x y v u Q I rx ry q

/-! ### ints -/
theorem opI {f : Value → Value → Sem Value} {C : Int → Int → Prop} {g : Int → Int → Int}
    (rule : ∀ (i j : Int) (t u : Tok) (s : Shared) (Q : Value → Shared → Prop) (E : Value → Shared → Prop), C i j → Q (.int (g i j) s.toks) { s with toks := s.toks + 1 } → wpAny (model X.prog X.w) X.A (f (.int i t) (.int j u)) Q E s) :
    OpR X f (rI C fun i j => .int (g i j)) := by
  intro pins s σ H x y v u Q I rx ry h
  obtain ⟨i, j, rfl, rfl, hc, q⟩ := h
  obtain ⟨t, rfl⟩ := rx
  obtain ⟨t', rfl⟩ := ry
  exact rule i j t t' s _ _ hc ⟨.int (g i j), H, I.tok _, ⟨_, rfl⟩, q⟩
theorem opI0 {f : Value → Value → Sem Value} {g : Int → Int → Int}
    (rule : ∀ (i j : Int) (t u : Tok) (s : Shared) (Q : Value → Shared → Prop) (E : Value → Shared → Prop), Q (.int (g i j) s.toks) { s with toks := s.toks + 1 } → wpAny (model X.prog X.w) X.A (f (.int i t) (.int j u)) Q E s) :
    OpR X f (rI0 fun i j => .int (g i j)) := by
  intro pins s σ H x y v u Q I rx ry h
  obtain ⟨i, j, rfl, rfl, q⟩ := h
  obtain ⟨t, rfl⟩ := rx
  obtain ⟨t', rfl⟩ := ry
  exact rule i j t t' s _ _ ⟨.int (g i j), H, I.tok _, ⟨_, rfl⟩, q⟩
theorem opB0 {f : Value → Value → Sem Value} {g : Int → Int → Bool}
    (rule : ∀ (i j : Int) (t u : Tok) (s : Shared) (Q : Value → Shared → Prop) (E : Value → Shared → Prop), Q (.bool (g i j)) s → wpAny (model X.prog X.w) X.A (f (.int i t) (.int j u)) Q E s) :
    OpR X f (rI0 fun i j => .bl (g i j)) := by
  intro pins s σ H x y v u Q I rx ry h
  obtain ⟨i, j, rfl, rfl, q⟩ := h
  obtain ⟨t, rfl⟩ := rx
  obtain ⟨t', rfl⟩ := ry
  exact rule i j t t' s _ _ ⟨.bl (g i j), H, I, rfl, q⟩

def CDiv (i j : Int) : Prop := 0 < j ∧ j < 1073741824
def CDivN (i j : Int) : Prop := j ≠ 0 ∧ j.natAbs < 1073741824
def CPow (i j : Int) : Prop := 0 ≤ j ∧ j ≤ 1000000 ∧ i.natAbs < 2 ^ 64
def CMul (i j : Int) : Prop := (-(2 ^ 64) < i ∧ i < 2 ^ 64) ∨ (-(2 ^ 64) < j ∧ j < 2 ^ 64)
theorem CMul.ok {i j : Int} (h : CMul i j) : IntMulOk i j := by
  rcases h with ⟨h1, h2⟩ | ⟨h1, h2⟩
  · exact .of_left (intBits_le_64 h1 h2)
  · exact .of_right (intBits_le_64 h1 h2)
theorem two_pow_nn (k : Nat) : (0 : Int) ≤ 2 ^ k := by
  rw [two_pow_cast]
  exact Int.natCast_nonneg _

theorem op_add : OpR X (binaryOp .Add) (rI0 fun i j => .int (i + j)) := opI0 fun _ _ _ _ _ _ _ q => add_int q
theorem op_sub : OpR X (binaryOp .Sub) (rI0 fun i j => .int (i - j)) := opI0 fun _ _ _ _ _ _ _ q => sub_int q
theorem op_mul : OpR X (binaryOp .Mult) (rI CMul fun i j => .int (i * j)) := opI fun _ _ _ _ _ _ _ hc q => mul_int q hc.ok
/-- // by a positive divisor -/
theorem op_fdiv : OpR X (binaryOp .FloorDiv) (rI CDiv fun i j => .int (i / j)) := opI fun i j _ _ _ _ _ hc q => by
  have h1 : (0 : Int) < j := hc.1
  have h2 : j < 1073741824 := hc.2
  exact floordiv_int (by omega) (by rw [Int.fdiv_eq_ediv_of_nonneg i (by omega)]; exact q) (.inl (PyProof.noPylong_small (by omega)))
theorem op_fdivN : OpR X (binaryOp .FloorDiv) (rI CDivN fun i j => .int (i.fdiv j)) := opI fun _ _ _ _ _ _ _ hc q => floordiv_int hc.1 q (.inl (PyProof.noPylong_small hc.2))
/-- % by a positive divisor of any size -/
theorem op_mod : OpR X (binaryOp .Mod) (rI (fun _ j => 0 < j) fun i j => .int (i % j)) := opI fun i j _ _ _ _ _ hc q => by
  have h1 : (0 : Int) < j := hc
  exact mod_int' (by omega) (by rw [Int.fmod_eq_emod_of_nonneg i (by omega)]; exact q)
theorem op_modN : OpR X (binaryOp .Mod) (rI (fun _ j => j ≠ 0) fun i j => .int (i.fmod j)) := opI fun _ _ _ _ _ _ _ hc q => mod_int' hc q
theorem op_pow : OpR X (binaryOp .Pow) (rI CPow fun i j => .int (i ^ j.toNat)) := opI fun _ _ _ _ _ _ _ hc q => pow_int_small hc.1 hc.2.1 hc.2.2 q
theorem op_shl : OpR X (binaryOp .LShift) (rI CPow fun i j => .int (i * 2 ^ j.toNat)) := opI fun _ _ _ _ _ _ _ hc q => lshift_int_small hc.1 hc.2.1 hc.2.2 q
theorem op_shr : OpR X (binaryOp .RShift) (rI (fun _ j => 0 ≤ j) fun i j => .int (i / 2 ^ j.toNat)) := opI fun i j _ _ _ _ _ hc q =>
  rshift_int hc (by rw [Int.fdiv_eq_ediv_of_nonneg i (two_pow_nn _)]; exact q)
theorem op_and : OpR X (binaryOp .BitAnd) (rI0 fun i j => .int (Builtin.bitAnd i j)) := opI0 fun _ _ _ _ _ _ _ q => and_int q
theorem op_or : OpR X (binaryOp .BitOr) (rI0 fun i j => .int (Builtin.bitOr i j)) := opI0 fun _ _ _ _ _ _ _ q => or_int q
theorem op_xor : OpR X (binaryOp .BitXor) (rI0 fun i j => .int (Builtin.bitXor i j)) := opI0 fun _ _ _ _ _ _ _ q => xor_int q

theorem iop_add : OpR X (inplaceOp .Add) (rI0 fun i j => .int (i + j)) := opI0 fun _ _ _ _ _ _ _ q => iadd_int q
theorem iop_sub : OpR X (inplaceOp .Sub) (rI0 fun i j => .int (i - j)) := opI0 fun _ _ _ _ _ _ _ q => isub_int q
theorem iop_mul : OpR X (inplaceOp .Mult) (rI CMul fun i j => .int (i * j)) := opI fun _ _ _ _ _ _ _ hc q => imul_int q hc.ok
theorem iop_fdiv : OpR X (inplaceOp .FloorDiv) (rI CDiv fun i j => .int (i / j)) := opI fun i j _ _ _ _ _ hc q => by
  have h1 : (0 : Int) < j := hc.1
  have h2 : j < 1073741824 := hc.2
  exact ifloordiv_int (by omega) (by rw [Int.fdiv_eq_ediv_of_nonneg i (by omega)]; exact q) (.inl (PyProof.noPylong_small (by omega)))
theorem iop_mod : OpR X (inplaceOp .Mod) (rI (fun _ j => 0 < j) fun i j => .int (i % j)) := opI fun i j _ _ _ _ _ hc q => by
  have h1 : (0 : Int) < j := hc
  exact imod_int (by omega) (by rw [Int.fmod_eq_emod_of_nonneg i (by omega)]; exact q)
theorem iop_shl : OpR X (inplaceOp .LShift) (rI CPow fun i j => .int (i * 2 ^ j.toNat)) := opI fun _ _ _ _ _ _ _ hc q => ilshift_int_small hc.1 hc.2.1 hc.2.2 q
theorem iop_shr : OpR X (inplaceOp .RShift) (rI (fun _ j => 0 ≤ j) fun i j => .int (i / 2 ^ j.toNat)) := opI fun i j _ _ _ _ _ hc q =>
  irshift_int hc (by rw [Int.fdiv_eq_ediv_of_nonneg i (two_pow_nn _)]; exact q)
theorem iop_and : OpR X (inplaceOp .BitAnd) (rI0 fun i j => .int (Builtin.bitAnd i j)) := opI0 fun _ _ _ _ _ _ _ q => iand_int q
theorem iop_or : OpR X (inplaceOp .BitOr) (rI0 fun i j => .int (Builtin.bitOr i j)) := opI0 fun _ _ _ _ _ _ _ q => ior_int q
theorem iop_xor : OpR X (inplaceOp .BitXor) (rI0 fun i j => .int (Builtin.bitXor i j)) := opI0 fun _ _ _ _ _ _ _ q => ixor_int q

theorem unI {f : Value → Sem Value} {g : Int → Int}
    (rule : ∀ (i : Int) (t : Tok) (s : Shared) (Q : Value → Shared → Prop) (E : Value → Shared → Prop), Q (.int (g i) s.toks) { s with toks := s.toks + 1 } → wpAny (model X.prog X.w) X.A (f (.int i t)) Q E s) :
    UnR X f (rU fun i => .int (g i)) := by
  intro pins s σ H x v Q I rx h
  obtain ⟨i, rfl, q⟩ := h
  obtain ⟨t, rfl⟩ := rx
  exact rule i t s _ _ ⟨.int (g i), H, I.tok _, ⟨_, rfl⟩, q⟩
theorem un_neg : UnR X (unaryOp .USub) (rU fun i => .int (-i)) := unI fun _ _ _ _ _ q => neg_int q
theorem un_inv : UnR X (unaryOp .Invert) (rU fun i => .int (Builtin.bitNot i)) := unI fun _ _ _ _ _ q => invert_int q

/-! ### bools among ints: n += (a < b) -/
theorem op_add_ib : OpR X (binaryOp .Add) (fun x y H Q => ∃ i k, x = .int i ∧ y = .bl k ∧ Q (.int (i + b2i k)) H) := by
  intro pins s σ H x y v u Q I rx ry h
  obtain ⟨i, k, rfl, rfl, q⟩ := h
  obtain ⟨t, rfl⟩ := rx
  cases ry
  exact add_int_bool ⟨.int (i + b2i k), H, I.tok _, ⟨_, rfl⟩, q⟩
end

/-! ### comparisons -/
/-- the scalars that == tells apart as data does -/
def scal : V → V → Bool
  | .non, .non => true | .non, .int _ => true | .int _, .non => true | .non, .bl _ => true | .bl _, .non => true | .non, .str _ => true | .str _, .non => true
  | .int _, .int _ => true | .bl _, .bl _ => true | .str _, .str _ => true | .byt _, .byt _ => true
  | .int _, .str _ => true | .str _, .int _ => true | .bl _, .str _ => true | .str _, .bl _ => true
  | _, _ => false
def rEq : R2 := fun x y H Q => scal x y = true ∧ Q (.bl (decide (x = y))) H
def rNe : R2 := fun x y H Q => scal x y = true ∧ Q (.bl (!decide (x = y))) H

theorem dec_int {i j : Int} : decide (V.int i = V.int j) = (i == j) := by
  rw [Bool.eq_iff_iff]
  simp
theorem dec_bl {i j : Bool} : decide (V.bl i = V.bl j) = (i == j) := by
  rw [Bool.eq_iff_iff]
  simp
theorem dec_str {i j : Str} : decide (V.str i = V.str j) = (i == j) := by
  rw [Bool.eq_iff_iff]
  simp
theorem dec_byt {i j : Array UInt8} : decide (V.byt i = V.byt j) = (i.toList == j.toList) := by
  rw [Bool.eq_iff_iff]
  cases i
  cases j
  simp

section
variable {X : Cx} {a b c : Expr} {ta tb tc : TE} {pos : Pos}
theorem fin_bl {pins : List (Addr × Obj)} {σ : St} {H : Hp} {s : Shared} {Q : VK} {k k' : Bool} (I : Inv X pins σ H s) (q : Q (.bl k) H) (e : k = k') : EP X pins σ Q (.bool k') s := by
  subst e
  exact ⟨.bl k, H, I, rfl, q⟩
theorem op_eq : OpR X (compareOp .Eq) rEq := by
  intro pins s σ H x y v u Q I rx ry h
  obtain ⟨hs, q⟩ := h
  cases x with
  | non =>
    cases rx
    cases y with
    | non => cases ry; exact PySem.EqNone.eq_none_none (fin_bl I q (by simp))
    | bl j => cases ry; exact PySem.EqNone.eq_none_bool (fin_bl I q (by simp))
    | int j => obtain ⟨t', rfl⟩ := ry; exact PySem.EqNone.eq_none_int (fin_bl I q (by simp))
    | str j => obtain ⟨t', rfl⟩ := ry; exact PySem.EqNone.eq_none_str (fin_bl I q (by simp))
    | _ => exact absurd (show false = true from hs) Bool.false_ne_true
  | bl i =>
    cases rx
    cases y with
    | non => cases ry; exact PySem.EqNone.eq_bool_none (fin_bl I q (by simp))
    | bl j => cases ry; exact eq_bool (fin_bl I q dec_bl)
    | str j => obtain ⟨t', rfl⟩ := ry; exact PySem.EqMixed.eq_bool_str (fin_bl I q (by simp))
    | _ => exact absurd (show false = true from hs) Bool.false_ne_true
  | int i =>
    obtain ⟨t, rfl⟩ := rx
    cases y with
    | non => cases ry; exact PySem.EqNone.eq_int_none (fin_bl I q (by simp))
    | int j => obtain ⟨t', rfl⟩ := ry; exact eq_int (fin_bl I q dec_int)
    | str j => obtain ⟨t', rfl⟩ := ry; exact PySem.EqMixed.eq_int_str (fin_bl I q (by simp))
    | _ => exact absurd (show false = true from hs) Bool.false_ne_true
  | str i =>
    obtain ⟨t, rfl⟩ := rx
    cases y with
    | non => cases ry; exact PySem.EqNone.eq_str_none (fin_bl I q (by simp))
    | bl j => cases ry; exact PySem.EqMixed.eq_str_bool (fin_bl I q (by simp))
    | int j => obtain ⟨t', rfl⟩ := ry; exact PySem.EqMixed.eq_str_int (fin_bl I q (by simp))
    | str j => obtain ⟨t', rfl⟩ := ry; exact eq_str (fin_bl I q dec_str)
    | _ => exact absurd (show false = true from hs) Bool.false_ne_true
  | byt i =>
    obtain ⟨t, rfl⟩ := rx
    cases y with
    | byt j => obtain ⟨t', rfl⟩ := ry; exact PySem.W.eq_bytes (fin_bl I q dec_byt)
    | _ => exact absurd (show false = true from hs) Bool.false_ne_true
  | _ => cases y <;> exact absurd (show false = true from hs) Bool.false_ne_true
theorem op_ne : OpR X (compareOp .NotEq) rNe := by
  intro pins s σ H x y v u Q I rx ry h
  obtain ⟨hs, q⟩ := h
  cases x with
  | non =>
    cases rx
    cases y with
    | non => cases ry; exact PySem.EqNone.ne_none_none (fin_bl I q (by simp))
    | bl j => cases ry; exact PySem.EqNone.ne_none_bool (fin_bl I q (by simp))
    | int j => obtain ⟨t', rfl⟩ := ry; exact PySem.EqNone.ne_none_int (fin_bl I q (by simp))
    | str j => obtain ⟨t', rfl⟩ := ry; exact PySem.EqNone.ne_none_str (fin_bl I q (by simp))
    | _ => exact absurd (show false = true from hs) Bool.false_ne_true
  | bl i =>
    cases rx
    cases y with
    | non => cases ry; exact PySem.EqNone.ne_bool_none (fin_bl I q (by simp))
    | bl j => cases ry; exact ne_bool (fin_bl I q (congrArg not dec_bl))
    | str j => obtain ⟨t', rfl⟩ := ry; exact PySem.EqMixed.ne_bool_str (fin_bl I q (by simp))
    | _ => exact absurd (show false = true from hs) Bool.false_ne_true
  | int i =>
    obtain ⟨t, rfl⟩ := rx
    cases y with
    | non => cases ry; exact PySem.EqNone.ne_int_none (fin_bl I q (by simp))
    | int j => obtain ⟨t', rfl⟩ := ry; exact ne_int (fin_bl I q (congrArg not dec_int))
    | str j => obtain ⟨t', rfl⟩ := ry; exact PySem.EqMixed.ne_int_str (fin_bl I q (by simp))
    | _ => exact absurd (show false = true from hs) Bool.false_ne_true
  | str i =>
    obtain ⟨t, rfl⟩ := rx
    cases y with
    | non => cases ry; exact PySem.EqNone.ne_str_none (fin_bl I q (by simp))
    | bl j => cases ry; exact PySem.EqMixed.ne_str_bool (fin_bl I q (by simp))
    | int j => obtain ⟨t', rfl⟩ := ry; exact PySem.EqMixed.ne_str_int (fin_bl I q (by simp))
    | str j => obtain ⟨t', rfl⟩ := ry; exact ne_str (fin_bl I q (congrArg not dec_str))
    | _ => exact absurd (show false = true from hs) Bool.false_ne_true
  | byt i =>
    obtain ⟨t, rfl⟩ := rx
    cases y with
    | byt j => obtain ⟨t', rfl⟩ := ry; exact PySem.W.ne_bytes (fin_bl I q (congrArg not dec_byt))
    | _ => exact absurd (show false = true from hs) Bool.false_ne_true
  | _ => cases y <;> exact absurd (show false = true from hs) Bool.false_ne_true

theorem op_lt : OpR X (compareOp .Lt) (rI0 fun i j => .bl (decide (i < j))) := opB0 fun _ _ _ _ _ _ _ q => lt_int q
theorem op_le : OpR X (compareOp .LtE) (rI0 fun i j => .bl (decide (i ≤ j))) := opB0 fun _ _ _ _ _ _ _ q => le_int q
theorem op_gt : OpR X (compareOp .Gt) (rI0 fun i j => .bl (decide (j < i))) := opB0 fun _ _ _ _ _ _ _ q => gt_int q
theorem op_ge : OpR X (compareOp .GtE) (rI0 fun i j => .bl (decide (j ≤ i))) := opB0 fun _ _ _ _ _ _ _ q => ge_int q
theorem op_lt_str : OpR X (compareOp .Lt) (fun x y H Q => ∃ i j, x = .str i ∧ y = .str j ∧ Q (.bl (decide (i.cps.toList < j.cps.toList))) H) := by
  intro pins s σ H x y v u Q I rx ry h
  obtain ⟨i, j, rfl, rfl, q⟩ := h
  obtain ⟨t, rfl⟩ := rx
  obtain ⟨t', rfl⟩ := ry
  exact lt_str (fin_bl I q rfl)
/-- the one string within the other -/
theorem op_in_str : OpR X (compareOp .In) (fun x y H Q => ∃ i j, x = .str i ∧ y = .str j ∧ Q (.bl (!(Builtin.Str.occurrences j i 0 j.length 1).isEmpty)) H) := by
  intro pins s σ H x y v u Q I rx ry h
  obtain ⟨i, j, rfl, rfl, q⟩ := h
  obtain ⟨t, rfl⟩ := rx
  obtain ⟨t', rfl⟩ := ry
  exact in_str (fin_bl I q rfl)

/-- is None, is not None: the right side a value none -/
theorem op_isN : OpR X (compareOp .Is) (fun x y H Q => y = .non ∧ Q (.bl (decide (x = .non))) H) := by
  intro pins s σ H x y v u Q I rx ry h
  obtain ⟨rfl, q⟩ := h
  cases ry
  refine is_none_gen (fin_bl I q ?_)
  cases x <;> first
    | (cases rx; rfl)
    | (obtain ⟨t, rfl⟩ := rx; rfl)
theorem op_notN : OpR X (compareOp .IsNot) (fun x y H Q => y = .non ∧ Q (.bl (!decide (x = .non))) H) := by
  intro pins s σ H x y v u Q I rx ry h
  obtain ⟨rfl, q⟩ := h
  cases ry
  refine isnot_none_gen (fin_bl I q ?_)
  cases x <;> first
    | (cases rx; rfl)
    | (obtain ⟨t, rfl⟩ := rx; rfl)

theorem op_notin_str : OpR X (compareOp .NotIn) (fun x y H Q => ∃ i j, x = .str i ∧ y = .str j ∧ Q (.bl (!(!(Builtin.Str.occurrences j i 0 j.length 1).isEmpty))) H) := by
  intro pins s σ H x y v u Q I rx ry h
  obtain ⟨i, j, rfl, rfl, q⟩ := h
  obtain ⟨t, rfl⟩ := rx
  obtain ⟨t', rfl⟩ := ry
  exact notIn_str (fin_bl I q rfl)
/-- is, is not of two objects that are tracked lists or instances -/
def isObj : HO → Bool
  | .lst _ => true
  | .ins _ _ _ => true
  | _ => false
theorem obj_there {pins : List (Addr × Obj)} {s : Shared} {σ : St} {H : Hp} {a : Addr} {o : HO} (I : Inv X pins σ H s) (h : H a = some o) (p : isObj o = true) : ∃ ob, s.heap.get? a = some ob ∧ ob.cls ≠ .type "tuple" := by
  cases o with
  | lst xs =>
    obtain ⟨_, its, n, _, e⟩ : xs.length ≤ sizeLine ∧ ∃ (its : List Value) (n : Nat), Vals xs its ∧ s.heap.get? a = some { cls := .type "list", data := .seq its.toArray n } := I.hok a _ h
    exact ⟨_, e, (by show Value.type "list" ≠ .type "tuple"; decide +kernel)⟩
  | ins C dx fs =>
    have x := I.hok a _ h
    obtain ⟨_, _, _, e, _⟩ := x
    exact ⟨_, e, (by show Value.ref C ≠ .type "tuple"; exact fun z => by cases z)⟩
  | _ => exact absurd (show false = true from p) Bool.false_ne_true
theorem op_is_ref : OpR X (compareOp .Is) (fun x y H Q => ∃ a b oa ob, x = .ref a ∧ y = .ref b ∧ H a = some oa ∧ isObj oa = true ∧ H b = some ob ∧ isObj ob = true ∧ Q (.bl (decide (a = b))) H) := by
  intro pins s σ H x y v u Q I rx ry h
  obtain ⟨a, b, oa, ob, rfl, rfl, ha, pa, hb, pb, q⟩ := h
  cases rx
  cases ry
  obtain ⟨o1, e1, n1⟩ := obj_there I ha pa
  obtain ⟨o2, e2, _⟩ := obj_there I hb pb
  by_cases z : a = b
  · subst z
    exact wpAny_is_ref_self (fin_bl I q (by simp))
  · exact wpAny_is_ref_other z e1 e2 n1 (fin_bl I q (by simp [z]))
theorem op_isnot_ref : OpR X (compareOp .IsNot) (fun x y H Q => ∃ a b oa ob, x = .ref a ∧ y = .ref b ∧ H a = some oa ∧ isObj oa = true ∧ H b = some ob ∧ isObj ob = true ∧ Q (.bl (!decide (a = b))) H) := by
  intro pins s σ H x y v u Q I rx ry h
  obtain ⟨a, b, oa, ob, rfl, rfl, ha, pa, hb, pb, q⟩ := h
  cases rx
  cases ry
  obtain ⟨o1, e1, n1⟩ := obj_there I ha pa
  obtain ⟨o2, e2, _⟩ := obj_there I hb pb
  by_cases z : a = b
  · subst z
    exact wpAny_isNot_ref_self (fin_bl I q (by simp))
  · exact wpAny_isNot_ref_other z e1 e2 n1 (fin_bl I q (by simp [z]))

/-- two rules for one operation: by cases -/
theorem OpR.or {f : Value → Value → Sem Value} {r r' : R2} (h : OpR X f r) (h' : OpR X f r') : OpR X f (fun x y H Q => r x y H Q ∨ r' x y H Q) := by
  intro pins s σ H x y v u Q I rx ry q
  rcases q with q | q
  · exact h pins s σ H x y v u Q I rx ry q
  · exact h' pins s σ H x y v u Q I rx ry q

theorem nomark (b : Expr) {op : CmpOp} (h : op ≠ .In := by decide) (h2 : op ≠ .NotIn := by decide) : behindInMarks op b = false := by
  have e1 : (op == CmpOp.In) = false := by cases op <;> first | rfl | exact absurd rfl h
  have e2 : (op == CmpOp.NotIn) = false := by cases op <;> first | rfl | exact absurd rfl h2
  cases b <;> simp [behindInMarks, e1, e2]
/-- a comparison as a value; hm: nomark b, or (for in, not in) by with_unfolding_all rfl -/
theorem pe_cmpR {op : CmpOp} {r : R2} (ho : OpR X (compareOp op) r) (ha : PE X a ta) (hb : PE X b tb) (hm : behindInMarks op b = false) : PE X (.Compare a [op] [b] pos) (tOp r ta tb) := by
  intro pins s σ H Q I h
  exact wpAny_Compare1 (binT ha hb I h fun v u s2 x y H2 I2 rx ry q => ho pins s2 σ H2 x y v u Q I2 rx ry q) hm
/-- a reading of a value as a test -/
def tTest (t : TE) : TT := fun σ H Q => t σ H fun x H' => ∃ k, x = .bl k ∧ Q k H'
theorem pt_cmpR {op : CmpOp} {r : R2} (ho : OpR X (compareOp op) r) (ha : PE X a ta) (hb : PE X b tb) (hm : behindInMarks op b = false) : PT X (.Compare a [op] [b] pos) (tTest (tOp r ta tb)) := by
  intro pins s σ H Q I h
  refine wpAny_isTrue_Compare1 (thn (ha pins s σ H _ I h) fun v s1 ⟨x, H1, I1, r1, q1⟩ => thn (hb pins s1 σ H1 _ I1 q1) fun u s2 ⟨y, H2, I2, r2, q2⟩ =>
    thn (ho pins s2 σ H2 x y v u _ I2 r1 r2 q2) fun c s3 ⟨z, H3, I3, r3, k, e, q3⟩ => ?_) hm
  subst e
  cases r3
  exact wpAny_truthy_bool ⟨H3, I3, q3⟩
/-- a op1 b op2 c -/
def tChain (r r' : R2) (ta tb tc : TE) : TE := fun σ H Q => ta σ H fun x H1 => tb σ H1 fun y H2 => r x y H2 fun z H3 => ∃ k, z = .bl k ∧
  (if k = true then tc σ H3 fun w' H4 => r' y w' H4 Q else Q (.bl false) H3)
theorem pe_chain {op op' : CmpOp} {r r' : R2} (ho : OpR X (compareOp op) r) (ho' : OpR X (compareOp op') r') (ha : PE X a ta) (hb : PE X b tb) (hc : PE X c tc)
    (hm : lastMarks [op, op'] [b, c] = false := by with_unfolding_all rfl) : PE X (.Compare a [op, op'] [b, c] pos) (tChain r r' ta tb tc) := by
  intro pins s σ H Q I h
  refine Compare_chain (thn (ha pins s σ H _ I h) fun v s1 ⟨x, H1, I1, r1, q1⟩ => chain_link (thn (hb pins s1 σ H1 _ I1 q1) fun u s2 ⟨y, H2, I2, r2, q2⟩ =>
    thn (ho pins s2 σ H2 x y v u _ I2 r1 r2 q2) fun d s3 ⟨z, H3, I3, r3, k, e, q3⟩ => ?_)) hm
  subst e
  cases r3
  refine wpAny_truthy_bool ?_
  cases k with
  | false => exact ite_ff ⟨.bl false, H3, I3, rfl, q3⟩
  | true => exact ite_tt (chain_last (thn (hc pins s3 σ H3 _ I3 q3) fun w' s4 ⟨z', H4, I4, r4, q4⟩ => ho' pins s4 σ H4 y z' u w' Q I4 r2 r4 q4))
theorem pt_chain {op op' : CmpOp} {r r' : R2} (ho : OpR X (compareOp op) r) (ho' : OpR X (compareOp op') r') (ha : PE X a ta) (hb : PE X b tb) (hc : PE X c tc)
    (hm : lastMarks [op, op'] [b, c] = false := by with_unfolding_all rfl) : PT X (.Compare a [op, op'] [b, c] pos) (tTest (tChain r r' ta tb tc)) := by
  intro pins s σ H Q I h
  refine isTrue_chain (thn (ha pins s σ H _ I h) fun v s1 ⟨x, H1, I1, r1, q1⟩ => test_link (thn (hb pins s1 σ H1 _ I1 q1) fun u s2 ⟨y, H2, I2, r2, q2⟩ =>
    thn (ho pins s2 σ H2 x y v u _ I2 r1 r2 q2) fun d s3 ⟨z, H3, I3, r3, k, e, q3⟩ => ?_)) hm
  subst e
  cases r3
  refine wpAny_truthy_bool ?_
  cases k with
  | false =>
    obtain ⟨k', e', q'⟩ := q3
    cases e'
    exact ite_ff ⟨H3, I3, q'⟩
  | true =>
    refine ite_tt (test_last (thn (hc pins s3 σ H3 _ I3 q3) fun w' s4 ⟨z', H4, I4, r4, q4⟩ => thn (ho' pins s4 σ H4 y z' u w' _ I4 r2 r4 q4) fun d' s5 ⟨z2, H5, I5, r5, k2, e2, q5⟩ => ?_))
    subst e2
    cases r5
    exact wpAny_truthy_bool ⟨H5, I5, q5⟩

/-! ### truth -/
/-- a value's truth by the abstract heap -/
def TruV (K : PySem.W.Frag) (x : V) (H : Hp) (k : Bool) : Prop :=
  match x with
  | .non => k = false
  | .bl b => k = b
  | .int i => k = (i != 0)
  | .str y => y.length ≤ sizeLine ∧ k = ((y.length : Int) != 0)
  | .byt y => y.size ≤ sizeLine ∧ k = ((y.size : Int) != 0)
  | .ref p => (∃ xs, SqL K H p xs ∧ k = !xs.isEmpty) ∨ (∃ xs, SqT K H p xs ∧ k = !xs.isEmpty) ∨ ∃ kvs, H p = some (.dK kvs) ∧ k = !kvs.isEmpty
  | _ => False
theorem isEmpty_kv {κ : Type} {kvs : List (κ × V)} {vs : List (κ × Value)} (r : KV kvs vs) : (!vs.isEmpty) = !kvs.isEmpty := by
  cases r <;> rfl
theorem isEmpty_of {xs : List V} {its : List Value} (r : Vals xs its) : (!its.toArray.isEmpty) = !xs.isEmpty := by
  cases r <;> simp
theorem line63 : (sizeLine : Nat) < 2 ^ 63 := by rw [sizeLine_eq]; decide
theorem tru_ok : TruR X (fun x H Q => ∃ k, TruV X.K x H k ∧ Q k H) := by
  intro pins s σ H x v Q I rx h
  obtain ⟨k, e, q⟩ := h
  have hl := line63
  have hs : sizeLine = 16777216 := sizeLine_eq
  cases x with
  | non =>
    cases rx
    have e' : k = false := e
    subst e'
    exact truthy_none ⟨H, I, q⟩
  | bl b =>
    cases rx
    have e' : k = b := e
    subst e'
    exact wpAny_truthy_bool ⟨H, I, q⟩
  | int i =>
    obtain ⟨t, rfl⟩ := rx
    have e' : k = (i != 0) := e
    subst e'
    exact PySem.P.truthy_int ⟨H, I, q⟩
  | str y =>
    obtain ⟨t, rfl⟩ := rx
    obtain ⟨hy, e'⟩ : y.length ≤ sizeLine ∧ k = ((y.length : Int) != 0) := e
    subst e'
    exact PySem.P.truthy_str (by omega) ⟨H, I.tok _, q⟩
  | byt y =>
    obtain ⟨t, rfl⟩ := rx
    obtain ⟨hy, e'⟩ : y.size ≤ sizeLine ∧ k = ((y.size : Int) != 0) := e
    subst e'
    exact PySem.W.truthy_bytes (by omega) ⟨H, I.tok _, q⟩
  | ref p =>
    cases rx
    have e' : (∃ xs, SqL X.K H p xs ∧ k = !xs.isEmpty) ∨ (∃ xs, SqT X.K H p xs ∧ k = !xs.isEmpty) ∨ ∃ kvs, H p = some (.dK kvs) ∧ k = !kvs.isEmpty := e
    rcases e' with ⟨xs, hx, e'⟩ | ⟨xs, hx, e'⟩ | ⟨kvs, hx, e'⟩
    · subst e'
      obtain ⟨its, r, pl, hz⟩ := I.list hx
      have hlen := r.length
      exact wpAny_truthy_list pl.isList (by simp only [List.size_toArray]; omega) ⟨H, I.tok _, by rw [isEmpty_of r]; exact q⟩
    · subst e'
      obtain ⟨its, r, pl, hz⟩ := I.tuple hx
      have hlen := r.length
      exact truthy_tuple pl (by simp only [List.size_toArray]; omega) ⟨H, I.tok _, by rw [isEmpty_of r]; exact q⟩
    · subst e'
      obtain ⟨hz, hS, vs, r, m⟩ : kvs.length ≤ sizeLine ∧ (p == sysModules) = false ∧ ∃ vs, KV kvs vs ∧ s.heap.DictOf (mixKind X.prog X.w) p vs := I.hok p _ hx
      have hlen : kvs.length = vs.length := Paired.length r
      exact wpAny_truthy_dict hS m (by omega) ⟨H, I.tok _, by rw [isEmpty_kv r]; exact q⟩
  | _ => exact (show False from e).elim
/-- any expression whose test is its value's truth (a name, a call, a subscript, a field ..: he by fun _ => rfl) -/
theorem pt_truth (ha : PE X a ta) (he : ∀ whole, isTrue a X.env whole = (do let v ← whole; standAt a.pos; holding [v] (truthy v))) :
    PT X a (fun σ H Q => ta σ H fun x H' => ∃ k, TruV X.K x H' k ∧ Q k H') := by
  intro pins s σ H Q I h
  exact isTrue_plain (thn (ha pins s σ H _ I h) fun v s1 ⟨x, H1, I1, r1, q1⟩ => tru_ok pins s1 σ H1 x v Q I1 r1 q1) (he _)

/-! ### strs and bytes -/
theorem pe_byt {x : List UInt8} {k : Nat} : PE X (.Constant (.bytes x) k pos) (fun _ H Q => Q (.byt x.toArray) H) := fun _ _ _ H _ I h => PySem.W.Constant_bytes ⟨.byt x.toArray, H, I.tok _, ⟨_, rfl⟩, h⟩
theorem op_add_str : OpR X (binaryOp .Add) (fun x y H Q => ∃ i j, x = .str i ∧ y = .str j ∧ i.length + j.length ≤ sizeLine ∧ Q (.str (i ++ j)) H) := by
  intro pins s σ H x y v u Q I rx ry h
  obtain ⟨i, j, rfl, rfl, hz, q⟩ := h
  obtain ⟨t, rfl⟩ := rx
  obtain ⟨t', rfl⟩ := ry
  exact add_str (fun t' tk => ⟨.str (i ++ j), H, I.tok _, ⟨_, rfl⟩, q⟩) hz
theorem iop_add_str : OpR X (inplaceOp .Add) (fun x y H Q => ∃ i j, x = .str i ∧ y = .str j ∧ i.length + j.length ≤ sizeLine ∧ Q (.str (i ++ j)) H) := by
  intro pins s σ H x y v u Q I rx ry h
  obtain ⟨i, j, rfl, rfl, hz, q⟩ := h
  obtain ⟨t, rfl⟩ := rx
  obtain ⟨t', rfl⟩ := ry
  exact iadd_str (fun t' tk => ⟨.str (i ++ j), H, I.tok _, ⟨_, rfl⟩, q⟩) hz
theorem op_add_byt : OpR X (binaryOp .Add) (fun x y H Q => ∃ i j, x = .byt i ∧ y = .byt j ∧ i.size + j.size ≤ 16777216 ∧ Q (.byt (i ++ j)) H) := by
  intro pins s σ H x y v u Q I rx ry h
  obtain ⟨i, j, rfl, rfl, hz, q⟩ := h
  obtain ⟨t, rfl⟩ := rx
  obtain ⟨t', rfl⟩ := ry
  exact PySem.W.KBy.add_bytes hz (fun t' tk => ⟨.byt (i ++ j), H, I.tok _, ⟨_, rfl⟩, q⟩)

def PlainIxT (b : Expr) : Prop := ∀ o i, subscripted b false o i = operate [o, i] (getItem o i)
/-- s[i], 0 ≤ i < len -/
theorem pe_item_str (ha : PE X a ta) (hb : PE X b tb) (hs : PlainIxT b) :
    PE X (.Subscript a b pos) (tOp (fun x y H Q => ∃ z i c, x = .str z ∧ y = .int i ∧ 0 ≤ i ∧ i < 2 ^ 63 ∧ i < z.length ∧ z.cps[i.toNat]? = some c ∧ Q (.str ⟨#[c]⟩) H) ta tb) := by
  intro pins s σ H Q I h
  refine Subscript_ (binT ha hb I h fun v u s2 x y H2 I2 rx ry q => ?_)
  obtain ⟨z, i, c, rfl, rfl, h0, h63, h1, hc, q⟩ := q
  obtain ⟨t, rfl⟩ := rx
  obtain ⟨t', rfl⟩ := ry
  have e : seqIndex? i z.length = some i.toNat := PySem.StrLaws.seqIndex_nonneg h0 h1
  exact tail_any (typeIs_str s2 z t) slot_str_getitem.lookup (getItem_str (c := c) (by
    have e1 : decide (i < -(2 ^ 63 : Int)) = false := decide_eq_false (by omega)
    have e2 : decide (i ≥ 2 ^ 63) = false := decide_eq_false (by omega)
    rw [e1, e2] <;> rfl) (by rw [e]; exact hc) ⟨.str ⟨#[c]⟩, H2, I2.tok _, ⟨_, rfl⟩, q⟩) (hs _ _)
/-- b[i], 0 ≤ i < len -/
theorem pe_item_byt (ha : PE X a ta) (hb : PE X b tb) (hs : PlainIxT b) :
    PE X (.Subscript a b pos) (tOp (fun x y H Q => ∃ (z : List UInt8) (i : Int), x = .byt z.toArray ∧ y = .int i ∧ z.length ≤ sizeLine ∧ 0 ≤ i ∧ i < z.length ∧ Q (.int ((z.getD i.toNat 0).toNat : Nat)) H) ta tb) := by
  intro pins s σ H Q I h
  refine Subscript_ (binT ha hb I h fun v u s2 x y H2 I2 rx ry q => ?_)
  obtain ⟨z, i, rfl, rfl, hz, h0, h1, q⟩ := q
  obtain ⟨t, rfl⟩ := rx
  obtain ⟨t', rfl⟩ := ry
  have hl : sizeLine = 16777216 := sizeLine_eq
  exact tail_any (PySem.W.typeIs_bytes s2 z.toArray t) PySem.W.FB.slot_bytes_getitem.lookup (PySem.W.getItem_bytes (by omega) h0 h1 ⟨.int ((z.getD i.toNat 0).toNat : Nat), H2, I2.tok _, ⟨_, rfl⟩, q⟩) (hs _ _)

/-! ### scalar builtins, by CallR -/
theorem vals1 {x : V} {us : List Value} (r : Vals [x] us) : ∃ u, us = [u] ∧ RelV x u := by
  cases r with
  | cons r1 r2 => cases r2; exact ⟨_, rfl, r1⟩
theorem vals2 {x y : V} {us : List Value} (r : Vals [x, y] us) : ∃ u w', us = [u, w'] ∧ RelV x u ∧ RelV y w' := by
  cases r with
  | cons r1 r2 =>
    cases r2 with
    | cons r3 r4 => cases r4; exact ⟨_, _, rfl, r1, r3⟩
theorem call_abs : CallR X (.builtin "abs") (fun xs H Q => ∃ i, xs = [.int i] ∧ Q (.int (if i < 0 then -i else i)) H) := by
  intro pins s σ H xs us Q I r h
  obtain ⟨i, rfl, q⟩ := h
  obtain ⟨u, rfl, t, rfl⟩ := vals1 r
  exact call_abs_int fun u tk => ⟨.int (if i < 0 then -i else i), H, I.tok _, ⟨_, rfl⟩, q⟩
theorem call_max2 (hc : X.calm = true) : CallR X (.builtin "max") (fun xs H Q => ∃ i j, xs = [.int i, .int j] ∧ Q (.int (if j > i then j else i)) H) := by
  intro pins s σ H xs us Q I r h
  obtain ⟨i, j, rfl, q⟩ := h
  obtain ⟨u, w', rfl, ⟨t, rfl⟩, ⟨t', rfl⟩⟩ := vals2 r
  refine max_two_ints (I.ok.hd hc) fun h' tk k => ⟨_, H, I.kept k, ?_, q⟩
  by_cases hj : j > i
  · rw [if_pos hj, if_pos hj]; exact ⟨_, rfl⟩
  · rw [if_neg hj, if_neg hj]; exact ⟨_, rfl⟩
theorem call_min2 (hc : X.calm = true) : CallR X (.builtin "min") (fun xs H Q => ∃ i j, xs = [.int i, .int j] ∧ Q (.int (if j < i then j else i)) H) := by
  intro pins s σ H xs us Q I r h
  obtain ⟨i, j, rfl, q⟩ := h
  obtain ⟨u, w', rfl, ⟨t, rfl⟩, ⟨t', rfl⟩⟩ := vals2 r
  refine min_two_ints (I.ok.hd hc) fun h' tk k => ⟨_, H, I.kept k, ?_, q⟩
  by_cases hj : j < i
  · rw [if_pos hj, if_pos hj]; exact ⟨_, rfl⟩
  · rw [if_neg hj, if_neg hj]; exact ⟨_, rfl⟩
theorem call_int1 : CallR X (.type "int") (fun xs H Q => (∃ i, xs = [.int i] ∧ Q (.int i) H) ∨ ∃ k, xs = [.bl k] ∧ Q (.int (if k then 1 else 0)) H) := by
  intro pins s σ H xs us Q I r h
  rcases h with ⟨i, rfl, q⟩ | ⟨k, rfl, q⟩
  · obtain ⟨u, rfl, t, rfl⟩ := vals1 r
    exact call_int_int ⟨.int i, H, I, ⟨_, rfl⟩, q⟩
  · obtain ⟨u, rfl, r1⟩ := vals1 r
    cases r1
    exact call_int_bool ⟨.int (if k then 1 else 0), H, I.tok _, ⟨_, rfl⟩, q⟩
theorem call_bool1 : CallR X (.type "bool") (fun xs H Q => (∃ i, xs = [.int i] ∧ Q (.bl (i != 0)) H) ∨ ∃ k, xs = [.bl k] ∧ Q (.bl k) H) := by
  intro pins s σ H xs us Q I r h
  rcases h with ⟨i, rfl, q⟩ | ⟨k, rfl, q⟩
  · obtain ⟨u, rfl, t, rfl⟩ := vals1 r
    exact call_bool_int ⟨.bl (i != 0), H, I, rfl, q⟩
  · obtain ⟨u, rfl, r1⟩ := vals1 r
    cases r1
    exact call_bool_bool ⟨.bl k, H, I, rfl, q⟩
theorem call_str_int : CallR X (.type "str") (fun xs H Q => ∃ i, xs = [.int i] ∧ i.natAbs.log2 < 1920 ∧ Q (.str (toString i)) H) := by
  intro pins s σ H xs us Q I r h
  obtain ⟨i, rfl, hz, q⟩ := h
  obtain ⟨u, rfl, t, rfl⟩ := vals1 r
  exact PySem.P.str_of_int hz ⟨.str _, H, I.tok _, ⟨_, rfl⟩, q⟩
theorem call_ord : CallR X (.builtin "ord") (fun xs H Q => ∃ x, xs = [.str x] ∧ x.length = 1 ∧ Q (.int (x.cps.getD 0 0 : Nat)) H) := by
  intro pins s σ H xs us Q I r h
  obtain ⟨x, rfl, hz, q⟩ := h
  obtain ⟨u, rfl, t, rfl⟩ := vals1 r
  exact ord_of_one hz ⟨.int _, H, I.tok _, ⟨_, rfl⟩, q⟩
theorem call_chr : CallR X (.builtin "chr") (fun xs H Q => ∃ i, xs = [.int i] ∧ 0 ≤ i ∧ i ≤ 1114111 ∧ Q (.str ⟨#[i.toNat]⟩) H) := by
  intro pins s σ H xs us Q I r h
  obtain ⟨i, rfl, h0, h1, q⟩ := h
  obtain ⟨u, rfl, t, rfl⟩ := vals1 r
  exact chr_of_range h0 h1 ⟨.str _, H, I.tok _, ⟨_, rfl⟩, q⟩
/-- len of a str, a bytes, a list, a tuple -/
def LenV (K : PySem.W.Frag) (x : V) (H : Hp) (n : Nat) : Prop :=
  match x with
  | .str y => y.length ≤ sizeLine ∧ n = y.length
  | .byt y => y.size ≤ sizeLine ∧ n = y.size
  | .ref p => (∃ xs, SqL K H p xs ∧ n = xs.length) ∨ ∃ xs, SqT K H p xs ∧ n = xs.length
  | _ => False
theorem call_len : CallR X (.builtin "len") (fun xs H Q => ∃ x n, xs = [x] ∧ LenV X.K x H n ∧ Q (.int n) H) := by
  intro pins s σ H xs us Q I r h
  obtain ⟨x, n, rfl, e, q⟩ := h
  obtain ⟨u, rfl, rx⟩ := vals1 r
  have hl := line63
  have hs : sizeLine = 16777216 := sizeLine_eq
  cases x with
  | str y =>
    obtain ⟨t, rfl⟩ := rx
    obtain ⟨hy, e'⟩ : y.length ≤ sizeLine ∧ n = y.length := e
    subst e'
    exact len_str (by omega) ⟨.int _, H, I.tok _, ⟨_, rfl⟩, q⟩
  | byt y =>
    obtain ⟨t, rfl⟩ := rx
    obtain ⟨hy, e'⟩ : y.size ≤ sizeLine ∧ n = y.size := e
    subst e'
    exact PySem.W.len_bytes (by omega) ⟨.int _, H, I.tok _, ⟨_, rfl⟩, q⟩
  | ref p =>
    cases rx
    have e' : (∃ xs, SqL X.K H p xs ∧ n = xs.length) ∨ ∃ xs, SqT X.K H p xs ∧ n = xs.length := e
    rcases e' with ⟨xs, hx, e'⟩ | ⟨xs, hx, e'⟩
    · subst e'
      obtain ⟨its, r', pl, hz⟩ := I.list hx
      have hlen := r'.length
      exact Calls.call_len_list pl.isList (by simp only [List.size_toArray]; omega) ⟨.int xs.length, H, I.tok _, ⟨_, by simp only [List.size_toArray]; rw [hlen]⟩, q⟩
    · subst e'
      obtain ⟨its, r', pl, hz⟩ := I.tuple hx
      have hlen := r'.length
      exact len_tuple pl (by simp only [List.size_toArray]; omega) ⟨.int xs.length, H, I.tok _, ⟨_, by simp only [List.size_toArray]; rw [hlen]⟩, q⟩
  | _ => exact (show False from e).elim
/-- divmod: a new tuple -/
theorem call_divmod : CallR X (.builtin "divmod") (fun xs H Q => ∃ i j, xs = [.int i, .int j] ∧ CDiv i j ∧ ∀ p, H p = none → Q (.ref p) (upd H p (.tup [.int (i / j), .int (i % j)]))) := by
  intro pins s σ H xs us Q I r h
  obtain ⟨i, j, rfl, ⟨h1, h2⟩, q⟩ := h
  obtain ⟨u, w', rfl, ⟨t, rfl⟩, ⟨t', rfl⟩⟩ := vals2 r
  refine divmod_int (by omega) ?_ (.inl (PyProof.noPylong_small (by omega)))
  rw [Int.fdiv_eq_ediv_of_nonneg i (by omega), Int.fmod_eq_emod_of_nonneg i (by omega)]
  have hn : H s.heap.objs.size = none := I.hok.fresh (Nat.le_refl _)
  refine ⟨.ref s.heap.objs.size, _, ?_, rfl, q _ hn⟩
  refine I.laid (fun b o e => Heap.get?_push_of_some _ e) (Nat.le_refl _) ⟨by simp only [List.length_cons, List.length_nil]; rw [sizeLine_eq]; decide, [.int (i / j) s.toks, .int (i % j) (s.toks + 1)], .cons ⟨_, rfl⟩ (.cons ⟨_, rfl⟩ .nil), ?_⟩
  exact ⟨_, Heap.get?_push_size s.heap rfl, rfl, 0, rfl⟩
end
end L2

namespace L2
open PySem PySem.Spec PyProof.Rows

/-! ### an instance, its attributes a map -/
structure ObjM (h : Heap) (x dx C : Addr) (mA : Str → Option Value) : Prop where
  obj : h.get? x = some (PySem.W.instObj C dx)
  ns : h.Ns1 dx mA
  ne : dx ≠ x

theorem lookIn_ns {h : Heap} {dx : Addr} {mA : Str → Option Value} (n : h.Ns1 dx mA) : ∃ od, h.get? dx = some od ∧ ∀ name, PySem.W.lookIn name od = some (mA name) := by
  obtain ⟨o, es, ep, ho, hd, hk, _, hm⟩ := n
  refine ⟨o, ho, fun name => ?_⟩
  have e := hm name
  unfold nsFind findBy at e
  rw [← Array.find?_toList] at e
  unfold PySem.W.lookIn
  rw [hd]
  dsimp only
  split
  · rename_i y q
    rw [q] at e
    exact congrArg some e
  · rename_i q
    rw [q] at e
    have a : es.toList.any (·.refKey) = false := by
      rw [List.any_eq_false]
      intro y hy
      obtain ⟨z, t, hkey⟩ := hk y (Array.mem_toList_iff.mp hy)
      simp [DictEntry.refKey, hkey]
    have a' : ¬ es.toList.any (·.refKey) = true := by rw [a]; exact Bool.false_ne_true
    rw [if_neg a']
    exact congrArg some e

theorem ObjM.look {h : Heap} {x dx C : Addr} {mA : Str → Option Value} (I : ObjM h x dx C mA) : ∃ od, PySem.W.InstAt h x (PySem.W.instObj C dx) C (some od) ∧ ∀ name, PySem.W.lookIn name od = some (mA name) :=
  let ⟨od, ho, hl⟩ := lookIn_ns I.ns
  ⟨od, ⟨I.obj, rfl, rfl, ho⟩, hl⟩

section
variable {prog : Program} {w : World} {A : Around} {E : Value → Shared → Prop} {s : Shared} {K : PySem.W.Frag} {x dx C f : Addr} {mA : Str → Option Value} {name : Str} {v : Value}

theorem get_map {expr : Bool} {Q : Value → Shared → Prop} (X : K.In s.heap) (I : ObjM s.heap x dx C mA) (hg : PySem.W.plainGet K C name = true) (hh : PySem.W.hasDictIn K C = true)
    (ha : PySem.W.findIn K (.ref C) name = some none) (hv : mA name = some v) (hv' : PySem.W.handedIn v = true) (h : Q v { s with toks := s.toks + 1 }) :
    wpAny (model prog w) A (getAttr (.ref x) name expr) Q E s := by
  obtain ⟨od, J, hl⟩ := I.look
  exact PySem.W.get_value X J (PySem.W.plainGet_of hg).1 (PySem.W.findObj_own hh ha rfl (by rw [hl, hv])) hv' h

theorem get_const {expr : Bool} {a : Value} {Q : Value → Shared → Prop} (X : K.In s.heap) (I : ObjM s.heap x dx C mA) (hg : PySem.W.plainGet K C name = true) (hh : PySem.W.hasDictIn K C = true)
    (ha : PySem.W.findIn K (.ref C) name = some (some a)) (hn : PySem.W.specialIn K a "__get__" = some none) (hc : PySem.W.copiedNames.contains name = false) (hv : mA name = none) (hv' : PySem.W.handedIn a = true)
    (h : Q a { s with toks := s.toks + 1 }) : wpAny (model prog w) A (getAttr (.ref x) name expr) Q E s := by
  obtain ⟨od, J, hl⟩ := I.look
  exact PySem.W.get_value X J (PySem.W.plainGet_of hg).1 (PySem.W.findObj_cls hh ha hn hv' hc (by rw [hl, hv])) hv' h

theorem get_meth {pl : Sem Bool} {Q : Value × List Value → Shared → Prop} (X : K.In s.heap) (I : ObjM s.heap x dx C mA) (hg : PySem.W.plainGet K C name = true)
    (hf : PySem.W.findIn K (.ref C) name = some (some (.ref f))) (ht : PySem.W.isFn K (.ref f) = true) (hv : mA name = none) (h : Q (.ref f, [.ref x]) s) :
    wpAny (model prog w) A (getMethod (.ref x) name pl) Q E s := by
  obtain ⟨od, J, hl⟩ := I.look
  exact PySem.W.method_fn X J (PySem.W.plainGet_of hg).1 (PySem.W.plainGet_of hg).2 hf (beq_iff_eq.mp ht) (by show (PySem.W.lookIn name od).map (·.isSome) = some false; rw [hl, hv]; rfl) h

theorem set_map {ns : List Str} {Q : Unit → Shared → Prop} (X : K.In s.heap) (I : ObjM s.heap x dx C mA)
    (hs : PySem.W.findIn K (.ref C) "__setattr__" = some (some (.builtin "object.__setattr__"))) (hp : PySem.W.plainOver K C = true) (ht : PySem.W.takerIn K C name = some none) (hh : PySem.W.hasDictIn K C = true)
    (hw : PySem.Within mA ns) (hsz : ns.length ≤ sizeLine)
    (h : ∀ h', ObjM h' x dx C (fun y => if y = name then some v else mA y) → Heap.SameBut dx s.heap h' → Q () { s with heap := h', toks := s.toks + 2 }) :
    wpAny (model prog w) A (setAttr (.ref x) name v) Q E s := by
  obtain ⟨od, J, hl⟩ := I.look
  refine PySem.W.set_plain X J hs (PySem.W.osa_open (s := { s with toks := s.toks + 1 }) (r := none) X J hp ht fun b => ?_)
  obtain ⟨cd, hc, hd'⟩ := PySem.W.any_some hh
  have hx : s.heap.get? x = some ⟨.ref C, some dx, .plain, #[]⟩ := I.obj
  refine wpAny_bind (wpAny_pure (wpAny_bind (wpAny_bind (wpAny_loadPart hx (wpAny_bind (PySem.W.Looks.here (s := { s with toks := s.toks + 1 }) (PySem.W.looks_clsIn X hc) ?_))))))
  rw [hd']
  refine wpAny_pure (a := some dx) (wpAny_bind (wpAny_pure (wpAny_bind ?_)))
  refine wpAny_nsSet1 (s := { s with toks := s.toks + 1 }) I.ns fun h' hn2 hs2 => ?_
  obtain ⟨oD, esD, epD, hoD, hdD, hcD⟩ := hn2.count (PySem.Within.cons name v hw)
  refine wpAny_bind (wpAny_lookBehind hoD (by rw [hdD]; exact pastItsLine_dict (Nat.le_trans hcD (by rw [List.length_cons]; omega))) ?_)
  exact wpAny_pure (h _ ⟨(hs2.2 _ (Ne.symm I.ne)).trans I.obj, hn2, I.ne⟩ hs2)

/-- C(..): the dict at the heap's end, the instance behind it; then its __init__ -/
theorem make_map {R : Result → Shared → Prop} {vs : List Value} {kw : List (Str × Value)} (X : K.In s.heap) (hm : PySem.W.makesIn K C = true)
    (hi : PySem.W.findIn K (.ref C) "__init__" = some (some (.ref f))) (hf : PySem.W.typeIn K (.ref f) = some (.type "function"))
    (h : codeAny (model prog w) (A.under (.builtin "type.__call__" ⟨.ref C :: vs, kw⟩)) (.call (.ref f) ⟨.ref (s.heap.objs.size + 1) :: vs, kw⟩) (PySem.W.InitBack (s.heap.objs.size + 1) R)
      { s with heap := (s.heap.push PySem.W.emptyDict).push (PySem.W.instObj C s.heap.objs.size) }) :
    codeAny (model prog w) A (.call (.ref C) ⟨vs, kw⟩) R s := by
  obtain ⟨hh, g, d, t, os⟩ := s
  exact PySem.W.make_core (PySem.W.makes_of X hm) (PySem.W.looks_findIn X hi) (fun self => PySem.W.bind_fn X self hf) (.inl rfl) h
/-- C() where there is no __init__ but object's -/
theorem make_map0 {R : Result → Shared → Prop} (X : K.In s.heap) (hm : PySem.W.makesIn K C = true)
    (hi : PySem.W.findIn K (.ref C) "__init__" = some (some (.builtin "object.__init__")))
    (hb : ∀ self, PySem.W.Looks (model prog w) s.heap (bindSpecial (.builtin "object.__init__") self) (.builtin "object.__init__", [self]))
    (h : codeAny (model prog w) (A.under (.builtin "type.__call__" ⟨[.ref C], []⟩)) (.call (.builtin "object.__init__") ⟨[.ref (s.heap.objs.size + 1)], []⟩) (PySem.W.InitBack (s.heap.objs.size + 1) R)
      { s with heap := (s.heap.push PySem.W.emptyDict).push (PySem.W.instObj C s.heap.objs.size) }) :
    codeAny (model prog w) A (.call (.ref C) ⟨[], []⟩) R s := by
  obtain ⟨hh, g, d, t, os⟩ := s
  exact PySem.W.make_core (PySem.W.makes_of X hm) (PySem.W.looks_findIn X hi) hb (.inr ⟨rfl, rfl⟩) h
end

/-! ### the attributes as a list of pairs -/
def putF (f : Str) (v : V) : List (Str × V) → List (Str × V)
  | [] => [(f, v)]
  | (g, x) :: r => if g = f then (g, v) :: r else (g, x) :: putF f v r
theorem lookup_putF (f g : Str) (v : V) : ∀ fs : List (Str × V), (putF f v fs).lookup g = if g = f then some v else fs.lookup g
  | [] => by
    show List.lookup g [(f, v)] = _
    by_cases h : g = f
    · have hb : (g == f) = true := beq_iff_eq.mpr h
      simp only [List.lookup, hb, if_pos h]
    · have hb : (g == f) = false := beq_eq_false_iff_ne.mpr h
      simp only [List.lookup, hb, if_neg h]
  | (k, x) :: r => by
    have ih := lookup_putF f g v r
    rw [show putF f v ((k, x) :: r) = (if k = f then (k, v) :: r else (k, x) :: putF f v r) from rfl]
    by_cases hk : k = f
    · rw [if_pos hk]
      by_cases h : g = k
      · have hb : (g == k) = true := beq_iff_eq.mpr h
        simp only [List.lookup, hb, if_pos (h.trans hk)]
      · have hb : (g == k) = false := beq_eq_false_iff_ne.mpr h
        simp only [List.lookup, hb, if_neg (fun e : g = f => h (e.trans hk.symm))]
    · rw [if_neg hk]
      by_cases h : g = k
      · have hb : (g == k) = true := beq_iff_eq.mpr h
        simp only [List.lookup, hb, if_neg (fun e : g = f => hk (h.symm.trans e))]
      · have hb : (g == k) = false := beq_eq_false_iff_ne.mpr h
        simp only [List.lookup, hb]
        exact ih
theorem keys_putF (f : Str) (v : V) : ∀ fs : List (Str × V), f ∈ (putF f v fs).map (·.1) ∧ ∀ g, g ∈ fs.map (·.1) → g ∈ (putF f v fs).map (·.1)
  | [] => ⟨by simp [putF], fun g h => by simp at h⟩
  | (k, x) :: r => by
    obtain ⟨i1, i2⟩ := keys_putF f v r
    rw [show putF f v ((k, x) :: r) = (if k = f then (k, v) :: r else (k, x) :: putF f v r) from rfl]
    by_cases hk : k = f
    · rw [if_pos hk]
      subst hk
      exact ⟨by simp, fun g h => by simpa using h⟩
    · rw [if_neg hk]
      refine ⟨?_, fun g h => ?_⟩
      · rw [List.map_cons]
        exact List.mem_cons_of_mem _ i1
      · rw [List.map_cons] at h ⊢
        rcases List.mem_cons.mp h with e | e
        · exact List.mem_cons.mpr (.inl e)
        · exact List.mem_cons_of_mem _ (i2 g e)
theorem length_putF (f : Str) (v : V) : ∀ fs : List (Str × V), (putF f v fs).length ≤ fs.length + 1
  | [] => by simp [putF]
  | (k, x) :: r => by
    have ih := length_putF f v r
    rw [show putF f v ((k, x) :: r) = (if k = f then (k, v) :: r else (k, x) :: putF f v r) from rfl]
    by_cases hk : k = f
    · rw [if_pos hk, List.length_cons, List.length_cons]; omega
    · rw [if_neg hk, List.length_cons, List.length_cons]; omega

theorem RelO.some_of {v : V} {o : Option Value} (r : RelO (some v) o) : ∃ u, o = some u ∧ RelV v u := by
  cases o with
  | none => exact (show False from r).elim
  | some u => exact ⟨u, rfl, r⟩
theorem RelO.none_of {o : Option Value} (r : RelO none o) : o = none := by
  cases o with
  | none => rfl
  | some u => exact (show False from r).elim
theorem handed_of {v : V} {u : Value} (r : RelV v u) : PySem.W.handedIn u = true := by
  cases v with
  | non => cases (show u = Value.none from r); rfl
  | bl b => cases (show u = Value.bool b from r); rfl
  | int i => obtain ⟨t, e⟩ := (show ∃ t, u = Value.int i t from r); cases e; rfl
  | str x => obtain ⟨t, e⟩ := (show ∃ t, u = Value.str x t from r); cases e; rfl
  | byt b => obtain ⟨t, e⟩ := (show ∃ t, u = Value.bytes b t from r); cases e; rfl
  | flt b => obtain ⟨t, e⟩ := (show ∃ t, u = Value.float b t from r); cases e; rfl
  | ref a => cases (show u = Value.ref a from r); rfl
  | ty n => cases (show u = Value.type n from r); rfl

section
variable {P : Program} {w : World} {H H' : Hp} {h h' : Heap} {a C dx : Addr} {fs fs' : List (Str × V)}
theorem ins_get (hok : HOk P w H h) (e : H a = some (.ins C dx fs)) : ∃ mA, ObjM h a dx C mA ∧ (∀ f, RelO (fs.lookup f) (mA f)) ∧ PySem.Within mA (fs.map (·.1)) ∧ fs.length ≤ 1000 ∧ H dx = some (.own a) := by
  obtain ⟨d, z, ne, ob, mA, n, r, q⟩ := (show ObjOk P w H h a (.ins C dx fs) from hok a _ e)
  exact ⟨mA, ⟨ob, n, ne⟩, r, q, z, d⟩
end

/-! ### what of the text a class must have -/
structure Cls (K : PySem.W.Frag) (C : Addr) : Prop where
  pg : PySem.W.plainGet K C Str.empty = true
  hd : PySem.W.hasDictIn K C = true
  po : PySem.W.plainOver K C = true
  sa : PySem.W.findIn K (.ref C) "__setattr__" = some (some (.builtin "object.__setattr__"))
theorem Cls.get {K : PySem.W.Frag} {C : Addr} (c : Cls K C) (f : Str) : PySem.W.plainGet K C f = true := c.pg
/-- no class of it has the name -/
def NoAttr (K : PySem.W.Frag) (C : Addr) (f : Str) : Prop := PySem.W.findIn K (.ref C) f = some none
theorem NoAttr.taker {K : PySem.W.Frag} {C : Addr} {f : Str} (n : NoAttr K C f) : PySem.W.takerIn K C f = some none := by
  unfold PySem.W.takerIn
  rw [show PySem.W.findIn K (.ref C) f = some none from n]
  rfl
/-- a constant of the class -/
structure Con (K : PySem.W.Frag) (C : Addr) (f : Str) (v : V) (u : Value) : Prop where
  at_ : PySem.W.findIn K (.ref C) f = some (some u)
  rel : RelV v u
  get : PySem.W.specialIn K u "__get__" = some none
  cp : PySem.W.copiedNames.contains f = false
/-- a method: a plain def of the class or of one above it -/
structure Meth (K : PySem.W.Frag) (C : Addr) (m : Str) (f : Addr) : Prop where
  at_ : PySem.W.findIn K (.ref C) m = some (some (.ref f))
  fn : PySem.W.isFn K (.ref f) = true
  kp : PySem.W.keepIn K (.ref f) = true

section
variable {X : Cx} {pins : List (Addr × Obj)} {σ : St} {H : Hp} {s : Shared} {a C dx : Addr} {fs : List (Str × V)} {f : Str} {v : V} {A : Around} {E : Value → Shared → Prop}

theorem getattr_ok {b : Bool} {Q : Value → Shared → Prop} (I : Inv X pins σ H s) (e : H a = some (.ins C dx fs)) (c : Cls X.K C) (n : NoAttr X.K C f) (l : fs.lookup f = some v)
    (h : ∀ u s', Inv X pins σ H s' → RelV v u → Q u s') : wpAny (model X.prog X.w) A (getAttr (.ref a) f b) Q E s := by
  obtain ⟨mA, O, r, _, _, _⟩ := ins_get I.hok e
  obtain ⟨u, hu, ru⟩ := RelO.some_of (v := v) (o := mA f) (by rw [← l]; exact r f)
  exact get_map I.kIn O (c.get f) c.hd n hu (handed_of ru) (h u _ (I.tok _) ru)

theorem getcon_ok {b : Bool} {u : Value} {Q : Value → Shared → Prop} (I : Inv X pins σ H s) (e : H a = some (.ins C dx fs)) (c : Cls X.K C) (k : Con X.K C f v u) (l : fs.lookup f = none)
    (h : ∀ s', Inv X pins σ H s' → Q u s') : wpAny (model X.prog X.w) A (getAttr (.ref a) f b) Q E s := by
  obtain ⟨mA, O, r, _, _, _⟩ := ins_get I.hok e
  have hn : mA f = none := RelO.none_of (by rw [← l]; exact r f)
  exact get_const I.kIn O (c.get f) c.hd k.at_ k.get k.cp hn (handed_of k.rel) (h _ (I.tok _))

theorem getmeth_ok {m : Str} {g : Addr} {pl : Sem Bool} {Q : Value × List Value → Shared → Prop} (I : Inv X pins σ H s) (e : H a = some (.ins C dx fs)) (c : Cls X.K C) (k : Meth X.K C m g) (l : fs.lookup m = none)
    (h : Q (.ref g, [.ref a]) s) : wpAny (model X.prog X.w) A (getMethod (.ref a) m pl) Q E s := by
  obtain ⟨mA, O, r, _, _, _⟩ := ins_get I.hok e
  have hn : mA m = none := RelO.none_of (by rw [← l]; exact r m)
  exact get_meth I.kIn O (c.get m) k.at_ k.fn hn h

theorem setattr_ok {y : V} {u : Value} {Q : Unit → Shared → Prop} (I : Inv X pins σ H s) (e : H a = some (.ins C dx fs)) (c : Cls X.K C) (n : NoAttr X.K C f) (hl : fs.length < 1000) (ry : RelV y u)
    (h : ∀ s', Inv X pins σ (upd H a (.ins C dx (putF f y fs))) s' → Q () s') : wpAny (model X.prog X.w) A (setAttr (.ref a) f u) Q E s := by
  obtain ⟨mA, O, r, wi, _, ho⟩ := ins_get I.hok e
  have hz : (fs.map (·.1)).length ≤ sizeLine := by rw [List.length_map, sizeLine_eq]; omega
  refine set_map I.kIn O c.sa c.po n.taker c.hd wi hz fun h' O' sb => h _ ?_
  have hd : ∃ o, h'.get? dx = some o := let ⟨o, _, _, e', _⟩ := O'.ns; ⟨o, e'⟩
  refine I.write (x := a) (e := dx) (by rw [e]; exact True.intro) (.inr ho) (fun b q hb z => (sb.2 b hb).trans z) hd ?_
  refine ⟨by rw [upd_ne O.ne]; exact ho, ?_, O.ne, O'.obj, _, O'.ns, fun g => ?_, fun g hg => ?_⟩
  · have := length_putF f y fs; omega
  · show RelO ((putF f y fs).lookup g) (if g = f then some u else mA g)
    rw [lookup_putF]
    by_cases q : g = f
    · rw [if_pos q, if_pos q]; exact ry
    · rw [if_neg q, if_neg q]; exact r g
  · by_cases q : g = f
    · rw [q]; exact (keys_putF f y fs).1
    · refine (keys_putF f y fs).2 g (wi g fun z => hg ?_)
      show (if g = f then some u else mA g) = none
      rw [if_neg q]; exact z

/-- a new instance, tracked, without attributes -/
theorem Inv.made (I : Inv X pins σ H s) : Inv X pins σ (upd (upd H s.heap.objs.size (.own (s.heap.objs.size + 1))) (s.heap.objs.size + 1) (.ins C s.heap.objs.size []))
    { s with heap := (s.heap.push PySem.W.emptyDict).push (PySem.W.instObj C s.heap.objs.size) } := by
  have e1 : (s.heap.push PySem.W.emptyDict).get? s.heap.objs.size = some PySem.W.emptyDict := Heap.get?_push_size s.heap rfl
  have e2 : ((s.heap.push PySem.W.emptyDict).push (PySem.W.instObj C s.heap.objs.size)).get? (s.heap.objs.size + 1) = some (PySem.W.instObj C s.heap.objs.size) := by
    have := Heap.get?_push_size (s.heap.push PySem.W.emptyDict) (o := PySem.W.instObj C s.heap.objs.size) rfl
    rwa [Heap.size_push] at this
  have e3 : (s.heap.push PySem.W.emptyDict).Ns s.heap.objs.size (fun _ => none) := ⟨PySem.W.emptyDict, #[], _, e1, rfl, (fun e he => absurd he (by simp)), fun _ => rfl⟩
  have I1 := I.laid (a := s.heap.objs.size) (o := .own (s.heap.objs.size + 1)) (h' := s.heap.push PySem.W.emptyDict) (t' := s.toks) (fun b u q => Heap.get?_push_of_some _ q) (Nat.le_refl _) ⟨_, e1⟩
  refine I1.laid (a := s.heap.objs.size + 1) (o := .ins C s.heap.objs.size []) (t' := s.toks) (fun b u q => Heap.get?_push_of_some _ q) (Nat.le_of_eq (Heap.size_push _ _)) ?_
  have ne : s.heap.objs.size ≠ s.heap.objs.size + 1 := Nat.ne_of_lt (Nat.lt_succ_self _)
  refine ⟨by rw [upd_ne ne, upd_same], Nat.zero_le _, ne, e2, fun _ => none, (Heap.Ns1.of_empty e3).at fun o q => Heap.get?_push_of_some _ q, fun _ => True.intro, fun y hy => absurd rfl hy⟩

/-- e.f where nothing but the object is asked: through attributeBase (super) and the last hold -/
theorem attr_of {prog : Program} {w : World} {env : Env} {e : Expr} {f : Str} {pos : Pos} {s : Shared} {Q : Value → Shared → Prop} (hb : attributeBase e f env (eval e env) = eval e env)
    (h : wpAny (model prog w) A (eval e env) (fun o s₁ => wpAny (model prog w) A (getAttr o f true) Q E s₁) E s) : wpAny (model prog w) A (eval (.Attribute e f pos) env) Q E s :=
  Attribute_any_ h (by rw [arm_eval_Attribute, hb])
end

/-! ### readings and rules -/
/-- e.f, an attribute of the instance -/
def tFld (K : PySem.W.Frag) (ta : TE) (f : Str) : TE := fun σ H Q => ta σ H fun x H1 => ∃ a C dx fs v, x = .ref a ∧ H1 a = some (.ins C dx fs) ∧ Cls K C ∧ NoAttr K C f ∧ fs.lookup f = some v ∧ Q v H1
/-- e.f, a constant of the class -/
def tCon (K : PySem.W.Frag) (ta : TE) (f : Str) : TE := fun σ H Q => ta σ H fun x H1 => ∃ a C dx fs v u, x = .ref a ∧ H1 a = some (.ins C dx fs) ∧ Cls K C ∧ Con K C f v u ∧ fs.lookup f = none ∧ Q v H1
/-- e.f = value -/
def sFld (K : PySem.W.Frag) (ta tv : TE) (f : Str) : TS := fun D σ H => tv σ H fun y H1 => ta σ H1 fun x H2 => ∃ a C dx fs, x = .ref a ∧ H2 a = some (.ins C dx fs) ∧ Cls K C ∧ NoAttr K C f ∧ fs.length < 1000 ∧
  D.nx σ (upd H2 a (.ins C dx (putF f y fs)))
/-- an augmented operator on two values -/
def InOp (X : Cx) (op : Operator) (rd : V → V → Hp → VK → Prop) : Prop :=
  ∀ (pins : List (Addr × Obj)) (s : Shared) (σ : St) (H : Hp) (x y : V) (u v : Value) (Q : VK), Inv X pins σ H s → RelV x u → RelV y v → rd x y H Q → wpAny (model X.prog X.w) X.A (inplaceOp op u v) (EP X pins σ Q) X.xe s
/-- e.f op= value -/
def sFldAug (K : PySem.W.Frag) (ta tv : TE) (rd : V → V → Hp → VK → Prop) (f : Str) : TS := fun D σ H => ta σ H fun x H1 => ∃ a C dx fs v, x = .ref a ∧ H1 a = some (.ins C dx fs) ∧ Cls K C ∧ NoAttr K C f ∧ fs.lookup f = some v ∧
  tv σ H1 fun y H2 => rd v y H2 fun z H3 => ∃ dx' fs', H3 a = some (.ins C dx' fs') ∧ fs'.length < 1000 ∧ D.nx σ (upd H3 a (.ins C dx' (putF f z fs')))

section
variable {X : Cx} {o e value : Expr} {f : Str} {pos pos' tpos : Pos} {ta tv : TE}
theorem pe_fld (he : PE X e ta) (hb : attributeBase e f X.env (eval e X.env) = eval e X.env) : PE X (.Attribute e f pos) (tFld X.K ta f) := by
  intro pins s σ H Q I h
  refine attr_of hb (thn (he pins s σ H _ I h) fun u s1 ⟨x, H1, I1, rx, a, C, dx, fs, v, ex, ea, c, n, l, q⟩ => ?_)
  subst ex
  obtain rfl : u = Value.ref a := rx
  exact getattr_ok I1 ea c n l fun u' s2 I2 ru => ⟨v, H1, I2, ru, q⟩
theorem pe_con (he : PE X e ta) (hb : attributeBase e f X.env (eval e X.env) = eval e X.env) : PE X (.Attribute e f pos) (tCon X.K ta f) := by
  intro pins s σ H Q I h
  refine attr_of hb (thn (he pins s σ H _ I h) fun u s1 ⟨x, H1, I1, rx, a, C, dx, fs, v, u0, ex, ea, c, k, l, q⟩ => ?_)
  subst ex
  obtain rfl : u = Value.ref a := rx
  exact getcon_ok I1 ea c k l fun s2 I2 => ⟨v, H1, I2, k.rel, q⟩
theorem ps_fld (ha : PE X o ta) (hv : PE X value tv) (hs : swapsWith value (some (.Attribute o f pos')) pos.line X.env = pure false) : PS X (.Assign [.Attribute o f pos'] value pos) (sFld X.K ta tv f) := by
  intro pins s σ H D I h
  refine plainObj_wpAny_Assign_Attribute (thn (hv pins s σ H _ I h) fun u s1 ⟨y, H1, I1, ry, q⟩ => thn (ha pins s1 σ H1 _ I1 q) fun ov s2 ⟨x, H2, I2, rx, a, C, dx, fs, ex, ea, c, n, l, q2⟩ => ?_) hs
  subst ex
  obtain rfl : ov = Value.ref a := rx
  exact setattr_ok I2 ea c n l ry fun s3 I3 => ⟨σ, _, I3, q2⟩
theorem ps_fldaug {op : Operator} {rd : V → V → Hp → VK → Prop} (ha : PE X o ta) (hv : PE X value tv) (hop : InOp X op rd) : PS X (.AugAssign (.Attribute o f tpos) op value pos) (sFldAug X.K ta tv rd f) := by
  intro pins s σ H D I h
  refine wpAny_AugAssign_AttributeAny (thn (ha pins s σ H _ I h) fun ov s1 ⟨x, H1, I1, rx, a, C, dx, fs, v, ex, ea, c, n, l, q⟩ => ?_)
  subst ex
  obtain rfl : ov = Value.ref a := rx
  refine getattr_ok I1 ea c n l fun u s2 I2 ru => thn (hv pins s2 σ H1 _ I2 q) fun w3 s3 ⟨y, H2, I3, ry, q3⟩ => thn (hop pins s3 σ H2 v y u w3 _ I3 ru ry q3) fun w4 s4 ⟨z, H3, I4, rz, dx', fs', ea', l', q4⟩ => ?_
  exact setattr_ok I4 ea' c n l' rz fun s5 I5 => ⟨σ, _, I5, q4⟩
def rAdd : V → V → Hp → VK → Prop := fun x y H Q => ∃ i j, x = .int i ∧ y = .int j ∧ Q (.int (i + j)) H
def rSub : V → V → Hp → VK → Prop := fun x y H Q => ∃ i j, x = .int i ∧ y = .int j ∧ Q (.int (i - j)) H
theorem in_add : InOp X .Add rAdd := by
  rintro pins s σ H x y u v Q I rx ry ⟨i, j, rfl, rfl, q⟩
  obtain ⟨t, rfl⟩ := (show ∃ t, u = Value.int i t from rx)
  obtain ⟨t', rfl⟩ := (show ∃ t', v = Value.int j t' from ry)
  exact PyProof.Rows.iadd_int ⟨.int (i + j), H, I.tok _, ⟨_, rfl⟩, q⟩
theorem in_sub : InOp X .Sub rSub := by
  rintro pins s σ H x y u v Q I rx ry ⟨i, j, rfl, rfl, q⟩
  obtain ⟨t, rfl⟩ := (show ∃ t, u = Value.int i t from rx)
  obtain ⟨t', rfl⟩ := (show ∃ t', v = Value.int j t' from ry)
  exact PyProof.Rows.isub_int ⟨.int (i - j), H, I.tok _, ⟨_, rfl⟩, q⟩

/-- what is between an instance and its method: the tree of a method call -/
theorem methcall_of {pl : Sem Bool} {m : Str} {apos : Pos} {args : List Expr} {pins : List (Addr × Obj)} {s : Shared} {σ : St} {H : Hp} {Q : Value → Shared → Prop} {te : TE} (he : PE X e te) (I : Inv X pins σ H s)
    (h : te σ H fun x H1 => ∃ a C dx fs g, x = .ref a ∧ H1 a = some (.ins C dx fs) ∧ Cls X.K C ∧ Meth X.K C m g ∧ fs.lookup m = none ∧
      ∀ s1, Inv X pins σ H1 s1 → wpAny (model X.prog X.w) X.A (callWith pos (.ref g) [.ref a] (backTo pos (starEach args X.env)) (backToKw pos (keywordEach [] X.env))) Q X.xe s1)
    (ht : eval (.Call (.Attribute e m apos) args [] pos) X.env = (do
      let ov ← eval e X.env
      standAt apos.atName
      let (f, first) ← holding [ov] (getMethod ov m pl)
      callWith pos f first (backTo pos (starEach args X.env)) (backToKw pos (keywordEach [] X.env)))) :
    wpAny (model X.prog X.w) X.A (eval (.Call (.Attribute e m apos) args [] pos) X.env) Q X.xe s := by
  refine PySem.W.methodCall_KW (pl := pl) (thn (he pins s σ H _ I h) fun u s1 ⟨x, H1, I1, rx, a, C, dx, fs, g, ex, ea, c, k, l, q⟩ => ?_) ht
  subst ex
  obtain rfl : u = Value.ref a := rx
  exact getmeth_ok I1 ea c k l (q s1 I1)
end

/-! ### isinstance -/
section
variable {X : Cx} {pins : List (Addr × Obj)} {σ : St} {H : Hp} {s : Shared} {A : Around} {E : Value → Shared → Prop} {Q : Value → Shared → Prop} {c : Value} {b : Bool}
/-- the type of a value, as the fragment's deciders take it; for an instance its class -/
inductive TyOf (K : PySem.W.Frag) (H : Hp) : V → Value → Prop where
  | non : TyOf K H .non (.type "NoneType")
  | bl (x : Bool) : TyOf K H (.bl x) (.type "bool")
  | int (i : Int) : TyOf K H (.int i) (.type "int")
  | str (x : Str) : TyOf K H (.str x) (.type "str")
  | flt (x : UInt64) : TyOf K H (.flt x) (.type "float")
  | lst {a : Addr} {xs : List V} (e : H a = some (.lst xs)) : TyOf K H (.ref a) (.type "list")
  | frz {a : Addr} {o : Obj} {xs : List V} (e : H a = some (.frz o (.lst xs))) : TyOf K H (.ref a) (.type "list")
  | tup {a : Addr} {xs : List V} (e : H a = some (.tup xs)) : TyOf K H (.ref a) (.type "tuple")
  | dK {a : Addr} {kvs : List (Key × V)} (e : H a = some (.dK kvs)) : TyOf K H (.ref a) (.type "dict")
  | dT {a : Addr} {kvs : List (List Key × V)} (e : H a = some (.dT kvs)) : TyOf K H (.ref a) (.type "dict")
  | ins {a C dx : Addr} {fs : List (Str × V)} (e : H a = some (.ins C dx fs)) (cl : Cls K C) (ha : PySem.W.findIn K (.ref C) "__class__" = some (some (.builtin "object.__class__")))
      (hn : PySem.W.specialIn K (.builtin "object.__class__") "__get__" = some (some (.builtin "getset_descriptor.__get__"))) (htk : PySem.W.takesIn K (.builtin "object.__class__") = some true)
      (hm : PySem.W.mroIn K C (.type "object") = some true) : TyOf K H (.ref a) (.ref C)
/-- isinstance(x, c) for one class c, a built-in or an own one: kitOne's answer -/
theorem isinst_ok {x : V} {u t : Value} (I : Inv X pins σ H s) (rx : RelV x u) (ty : TyOf X.K H x t) (e : PySem.W.kitOne X.K t c = some b) (h : ∀ tk, Q (.bool b) { s with toks := tk }) :
    wpAny (model X.prog X.w) A (call (.builtin "isinstance") [u, c]) Q E s := by
  cases ty with
  | non => cases (show u = Value.none from rx); exact PySem.W.kia_one PySem.W.kitx_none I.kIn True.intro e (fun z => nomatch z) h
  | bl y => cases (show u = Value.bool y from rx); exact PySem.W.kia_one PySem.W.kitx_bool I.kIn True.intro e (fun z => nomatch z) h
  | int i => obtain ⟨t, q⟩ := (show ∃ t, u = Value.int i t from rx); cases q; exact PySem.W.kia_one PySem.W.kitx_int I.kIn True.intro e (fun z => nomatch z) h
  | str y => obtain ⟨t, q⟩ := (show ∃ t, u = Value.str y t from rx); cases q; exact PySem.W.kia_one PySem.W.kitx_str I.kIn True.intro e (fun z => nomatch z) h
  | flt y => obtain ⟨t, q⟩ := (show ∃ t, u = Value.float y t from rx); cases q; exact PySem.W.kia_one PySem.W.kitx_float I.kIn True.intro e (fun z => nomatch z) h
  | @lst a xs ea =>
    cases (show u = Value.ref a from rx)
    obtain ⟨_, _, n, _, h1⟩ := (show ObjOk X.prog X.w H s.heap a (.lst xs) from I.hok a _ ea)
    exact PySem.W.kia_one PySem.W.kitx_list I.kIn ⟨_, h1, rfl⟩ e (fun z => nomatch z) h
  | @frz a ob xs ea =>
    cases (show u = Value.ref a from rx)
    obtain ⟨_, _, _, n, _, h1⟩ := (show ObjOk X.prog X.w H s.heap a (.frz ob (.lst xs)) from I.hok a _ ea)
    exact PySem.W.kia_one PySem.W.kitx_list I.kIn ⟨_, h1, rfl⟩ e (fun z => nomatch z) h
  | @tup a xs ea =>
    cases (show u = Value.ref a from rx)
    obtain ⟨_, _, _, p⟩ := (show ObjOk X.prog X.w H s.heap a (.tup xs) from I.hok a _ ea)
    obtain ⟨o, h1, h2, _⟩ := p
    exact PySem.W.kia_one PySem.W.kitx_tuple I.kIn ⟨o, h1, h2⟩ e (fun z => nomatch z) h
  | @dK a kvs ea =>
    cases (show u = Value.ref a from rx)
    obtain ⟨_, _, vs, _, p⟩ := (show ObjOk X.prog X.w H s.heap a (.dK kvs) from I.hok a _ ea)
    obtain ⟨o, es, ep, h1, h2, _⟩ := p
    exact PySem.W.kia_one PySem.W.kitx_dict I.kIn ⟨o, h1, h2.1⟩ e (fun z => nomatch z) h
  | @dT a kvs ea =>
    cases (show u = Value.ref a from rx)
    obtain ⟨_, _, xs, _, o, es, ep, h1, h2, _⟩ := (show ObjOk X.prog X.w H s.heap a (.dT kvs) from I.hok a _ ea)
    exact PySem.W.kia_one PySem.W.kitx_dict I.kIn ⟨o, h1, h2.1⟩ e (fun z => nomatch z) h
  | @ins a C dx fs ea cl ha hn htk hm =>
    cases (show u = Value.ref a from rx)
    obtain ⟨mA, O, _⟩ := ins_get I.hok ea
    obtain ⟨od, J, _⟩ := O.look
    exact PySem.W.kia_one (PySem.W.kitx_own (cl.get _) cl.hd ha hn htk hm) I.kIn J e (fun z => nomatch z) h
end
end L2

namespace L2
open PySem PySem.Spec PyProof.Rows

/-! ### room -/
structure Room (k : Nat) (A : Around) : Prop where
  hd : A.handled = none
  dp : A.depth + 3 * k + 5 < recursionLimit
  un : A.units + 16 * k + 200 < cLine
theorem Room.mono {j k : Nat} {A : Around} (r : Room k A) (h : j ≤ k) : Room j A := ⟨r.hd, by have := r.dp; omega, by have := r.un; omega⟩
theorem Room.deeper {k : Nat} {A : Around} (r : Room (k + 1) A) (env : Env) : Room k (A.deeper env) :=
  ⟨r.hd, by have := r.dp; show A.depth + 1 + 3 * k + 5 < _; omega, by have := r.un; show A.units + 3 + 16 * k + 200 < _; omega⟩
theorem Room.in1 {k : Nat} {A : Around} (r : Room (k + 1) A) : Room k A.in1 :=
  ⟨r.hd, by have := r.dp; show A.depth + 3 * k + 5 < _; omega, by have := r.un; show A.units + 1 + 16 * k + 200 < _; omega⟩
theorem make_depth {A : Around} {C : Addr} {us : List Value} {kw : List (Str × Value)} : (A.under (.builtin "type.__call__" ⟨.ref C :: us, kw⟩)).depth = A.depth + 1 := by
  first | rfl | simp [Around.under, Code.weight, Code.isCreation, Code.isGuard, Code.isCaller, Code.frames, Code.isFrame, guardIds]
theorem make_units {A : Around} {C : Addr} {us : List Value} {kw : List (Str × Value)} : (A.under (.builtin "type.__call__" ⟨.ref C :: us, kw⟩)).units = A.units + 1 := by
  first | rfl | simp [Around.under, Code.cUnits, Code.frames, Code.isFrame]
theorem Room.make {k : Nat} {A : Around} (r : Room (k + 1) A) (C : Addr) (us : List Value) (kw : List (Str × Value)) : Room k (A.under (.builtin "type.__call__" ⟨.ref C :: us, kw⟩)) :=
  ⟨r.hd, by have := r.dp; rw [make_depth]; omega, by have := r.un; rw [make_units]; omega⟩
theorem Room.depth {k : Nat} {A : Around} (r : Room k A) : A.depth < recursionLimit := by have := r.dp; omega
theorem Room.units {k : Nat} {A : Around} (r : Room k A) : A.units + 64 < cLine := by have := r.un; omega
theorem Room.units0 {k : Nat} {A : Around} (r : Room k A) : A.units < cLine := by have := r.un; omega

/-! ### argument lists and displays -/
def tNil : TA := fun _ H Q => Q [] H
def tCons (ta : TE) (tr : TA) : TA := fun σ H Q => ta σ H fun x H1 => tr σ H1 fun xs H2 => Q (x :: xs) H2
section
variable {X : Cx} {e : Expr} {es : List Expr} {te : TE} {t : TA} {pos : Pos}
theorem pa_nil : PA X [] tNil := fun _ _ _ _ H Q I h => Calls.spliced_nil ⟨[], H, I, .nil, h⟩
theorem pa_cons (ha : PE X e te) (hr : PA X es t) (hs : starEach (e :: es) X.env = (false, eval e X.env) :: starEach es X.env := by rfl) : PA X (e :: es) (tCons te t) := by
  intro pos pins s σ H Q I h
  rw [hs]
  show wpAny _ _ (spliced ((false, eval e X.env) :: backTo pos (starEach es X.env))) _ _ s
  refine Calls.spliced_cons (thn (ha pins s σ H _ I h) fun u s1 ⟨x, H1, I1, r1, q1⟩ => ?_)
  exact thn (hr pos pins s1 σ H1 _ I1 q1) fun us s2 ⟨xs, H2, I2, r2, q2⟩ => ⟨x :: xs, H2, I2, .cons r1 r2, q2⟩

/-- a tuple, a list of written items -/
def tTup (t : TA) : TE := fun σ H Q => t σ H fun xs H1 => xs.length ≤ sizeLine ∧ ∀ p, H1 p = none → Q (.ref p) (upd H1 p (.tup xs))
def tLst (t : TA) : TE := fun σ H Q => t σ H fun xs H1 => xs.length ≤ sizeLine ∧ ∀ p, H1 p = none → Q (.ref p) (upd H1 p (.lst xs))
theorem pe_tup {x1} (h : PA X es t) : PE X (.Tuple es x1 pos) (tTup t) := by
  intro pins s σ H Q I hq
  refine wpAny_Tuple_spliced (thn (h pos pins s σ H _ I hq) fun us s1 ⟨xs, H1, I1, r, z, q⟩ => ⟨by rw [← r.length]; exact z, ?_⟩)
  have hf : H1 s1.heap.objs.size = none := I1.hok.fresh (Nat.le_refl _)
  refine ⟨.ref s1.heap.objs.size, upd H1 s1.heap.objs.size (.tup xs), I1.laid (t' := s1.toks) (fun b u e => Heap.get?_push_of_some _ e) (Nat.le_refl _) ?_, rfl, q _ hf⟩
  exact ⟨z, us, r, ⟨_, Heap.get?_push_size _ rfl, rfl, _, rfl⟩⟩
theorem pe_lst (h : PA X es t) : PE X (.List es pos) (tLst t) := by
  intro pins s σ H Q I hq
  refine wpAny_List_spliced (thn (h pos pins s σ H _ I hq) fun us s1 ⟨xs, H1, I1, r, z, q⟩ => ⟨by rw [← r.length]; exact z, ?_⟩)
  have hf : H1 s1.heap.objs.size = none := I1.hok.fresh (Nat.le_refl _)
  refine ⟨.ref s1.heap.objs.size, upd H1 s1.heap.objs.size (.lst xs), I1.laid (t' := s1.toks) (fun b u e => Heap.get?_push_of_some _ e) (Nat.le_refl _) ?_, rfl, q _ hf⟩
  exact ⟨z, us, 0, r, Heap.get?_push_size _ rfl⟩
end

/-! ### what a def promises -/
/-- a def's promise: the bound arguments in the parameters' order, the heap, the wanted end, the wanted exception -/
abbrev Sp := List V → Hp → VK → XK → Prop
/-- how an exception lies behind a call (file 08 gives it): the callers' frames, abstract heap and state ahead of the call, the wish, the exception, the state -/
abbrev CXT := List Env → Hp → Shared → XK → Value → Shared → Prop

/-- the state at a call -/
structure Env0 (P : Program) (w : World) (K : PySem.W.Frag) (mg : Str → Option Value) (base : Heap) (A : Around) (outer : List Env) (s : Shared) (H : Hp) : Prop where
  frames : A.frames = some outer
  mod : Mod K mg base
  bs : ∀ b o, base.get? b = some o → s.heap.get? b = some o ∧ H b = none
  bsz : base.objs.size ≤ s.heap.objs.size
  funs : s.heap.FunFrames base outer
  frf : ∀ b ∈ frs outer, H b = none
  hok : HOk P w H s.heap
  bare : AllBare s.gens
/-- a call's end -/
def CE (outer : List Env) (P : Program) (w : World) (H : Hp) (s : Shared) (Q : VK) (u : Value) (s' : Shared) : Prop :=
  ∃ v H', s'.os = s.os ∧ AllBare s'.gens ∧ Un (frs outer) [] H H' s.heap s'.heap ∧ HOk P w H' s'.heap ∧ RelV v u ∧ Q v H'
def CR (CX : CXT) (outer : List Env) (P : Program) (w : World) (H : Hp) (s : Shared) (Q : VK) (E : XK) (r : Result) (s' : Shared) : Prop :=
  match r with
  | .ok (.ret u) => CE outer P w H s Q u s'
  | .ok _ => False
  | .error e => CX outer H s E e s'
structure FnOk (P : Program) (w : World) (K : PySem.W.Frag) (mg : Str → Option Value) (base : Heap) (CX : CXT) (k : Nat) (f : Addr) (fd : FuncData) (ps : List Str) (sp : Sp) : Prop where
  len : ∀ vs H Q E, sp vs H Q E → vs.length = ps.length
  run : ∀ (A : Around) (outer : List Env) (s : Shared) (H : Hp) (args : Args) (us : List Value) (vs : List V) (Q : VK) (E : XK), Room k A → Env0 P w K mg base A outer s H → BindsTo s fd args (ps.zip us) → Vals vs us → sp vs H Q E →
    codeAny (model P w) A (.call (.ref f) args) (CR CX outer P w H s Q E) s
theorem FnOk.mono {P : Program} {w : World} {K : PySem.W.Frag} {mg : Str → Option Value} {base : Heap} {CX : CXT} {j k : Nat} {f : Addr} {fd : FuncData} {ps : List Str} {sp : Sp} (F : FnOk P w K mg base CX j f fd ps sp) (h : j ≤ k) :
    FnOk P w K mg base CX k f fd ps sp := ⟨F.len, fun A outer s H args us vs Q E hr => F.run A outer s H args us vs Q E (hr.mono h)⟩
/-- a weaker promise -/
theorem FnOk.imp {P : Program} {w : World} {K : PySem.W.Frag} {mg : Str → Option Value} {base : Heap} {CX : CXT} {k : Nat} {f : Addr} {fd : FuncData} {ps : List Str} {sp sp' : Sp} (F : FnOk P w K mg base CX k f fd ps sp)
    (h : ∀ vs H Q E, sp' vs H Q E → sp vs H Q E) : FnOk P w K mg base CX k f fd ps sp' :=
  ⟨fun vs H Q E q => F.len vs H Q E (h _ _ _ _ q), fun A outer s H args us vs Q E hr he hb hv hs => F.run A outer s H args us vs Q E hr he hb hv (h _ _ _ _ hs)⟩

theorem Env0.make {P : Program} {w : World} {K : PySem.W.Frag} {mg : Str → Option Value} {base : Heap} {A : Around} {outer : List Env} {s : Shared} {H : Hp} (e : Env0 P w K mg base A outer s H) (C : Addr) (us : List Value) (kw : List (Str × Value)) :
    Env0 P w K mg base (A.under (.builtin "type.__call__" ⟨.ref C :: us, kw⟩)) outer s H := ⟨by first | exact e.frames | (simpa [Around.under, Code.envs, Code.isFrame, pushEnvs] using e.frames), e.mod, e.bs, e.bsz, e.funs, e.frf, e.hok, e.bare⟩
theorem Env0.in1 {P : Program} {w : World} {K : PySem.W.Frag} {mg : Str → Option Value} {base : Heap} {A : Around} {outer : List Env} {s : Shared} {H : Hp} (e : Env0 P w K mg base A outer s H) :
    Env0 P w K mg base A.in1 outer s H := ⟨e.frames, e.mod, e.bs, e.bsz, e.funs, e.frf, e.hok, e.bare⟩

section
variable {X : Cx} {pins : List (Addr × Obj)} {σ : St} {H : Hp} {s s' : Shared}
/-- from a body: what a callee wants -/
theorem Inv.env0 (I : Inv X pins σ H s) : Env0 X.prog X.w X.K X.mg X.base X.A X.stack s H :=
  ⟨I.ok.frames, I.ok.mod, I.bs, Nat.le_trans I.ok.bsz I.sz, I.stack, I.stkFree, I.hok, I.bare⟩
/-- behind a call -/
theorem Inv.after {Q : VK} {u : Value} (I : Inv X pins σ H s) (h : CE X.stack X.prog X.w H s Q u s') : EP X pins σ Q u s' := by
  obtain ⟨v, H', os, bare, un, hok, r, q⟩ := h
  obtain ⟨hh, g, d, t, os'⟩ := s'
  obtain rfl : os' = s.os := os
  exact ⟨v, H', I.call (h' := hh) (g' := g) (d' := d) (t' := t) (ch := []) un hok bare (fun b z => absurd z (by simp)), r, q⟩
end

/-! ### calls -/
/-- f(..): the written arguments, then the defaults dvs; E: what is wanted of an exception -/
def tCall (sp : Sp) (dvs : List V) (E : XK) (t : TA) : TE := fun σ H Q => t σ H fun vs H1 => sp (vs ++ dvs) H1 Q E
/-- o.m(..) of an instance of the class at C -/
def tMeth (C : Addr) (m : Str) (sp : Sp) (dvs : List V) (E : XK) (ta : TE) (t : TA) : TE := fun σ H Q => ta σ H fun x H1 => ∃ a dx fs, x = .ref a ∧ H1 a = some (.ins C dx fs) ∧ fs.lookup m = none ∧
  t σ H1 fun vs H2 => sp (x :: (vs ++ dvs)) H2 Q E
/-- C(..): a new instance and its dict, then __init__ -/
def tMake (C : Addr) (sp : Sp) (dvs : List V) (E : XK) (t : TA) : TE := fun σ H Q => t σ H fun vs H1 => ∀ x dx, H1 x = none → H1 dx = none → dx ≠ x →
  sp (.ref x :: (vs ++ dvs)) (upd (upd H1 dx (.own x)) x (.ins C dx [])) (fun v H2 => v = .non ∧ Q (.ref x) H2) E

/-- how the parameters are bound: us the positional arguments, kw the keywords' values by name, ds the defaults that fill up -/
def Binds (K : PySem.W.Frag) (fd : FuncData) (ps : List Str) (ds : List Value) : Prop :=
  ∀ (s : Shared) (us : List Value), K.In s.heap → (us ++ ds).length = ps.length → BindsTo s fd ⟨us, []⟩ (ps.zip (us ++ ds))
/-- every parameter is given -/
theorem Binds.all {K : PySem.W.Frag} {fd : FuncData} {ps : List Str} (h : ∀ us : List Value, us.length = ps.length → bindArgs fd ⟨us, []⟩ = pure (ps.zip us)) : Binds K fd ps [] := fun s us _ hl => by
  rw [List.append_nil] at hl ⊢
  exact .of_eq (h us hl)

/-- an exception of a callee reaches what this body wants of exceptions -/
def Passes (CX : CXT) (X : Cx) (E : XK) : Prop := ∀ (pins : List (Addr × Obj)) (σ : St) (H : Hp) (s : Shared) (e : Value) (s' : Shared), Inv X pins σ H s → CX X.stack H s E e s' → X.xe e s'

section
variable {X : Cx} {CX : CXT} {k : Nat} {f C : Addr} {fd : FuncData} {ps : List Str} {sp : Sp} {dvs : List V} {ds : List Value} {E : XK} {x m : Str} {p pos apos : Pos} {e o : Expr} {es : List Expr} {ta : TE} {t : TA}

/-- the callee runs -/
theorem run_fn {pins : List (Addr × Obj)} {σ : St} {H : Hp} {s : Shared} {Q : VK} {us : List Value} {vs : List V} (F : FnOk X.prog X.w X.K X.mg X.base CX k f fd ps sp) (hr : Room k X.A) (hb : Binds X.K fd ps ds) (hd : Vals dvs ds) (hx : Passes CX X E)
    (I : Inv X pins σ H s) (r : Vals vs us) (h : sp (vs ++ dvs) H Q E) : wpAny (model X.prog X.w) X.A (call (.ref f) us) (EP X pins σ Q) X.xe s := by
  have r2 : Vals (vs ++ dvs) (us ++ ds) := r.append hd
  have hl : (us ++ ds).length = ps.length := by rw [← r2.length]; exact F.len _ _ _ _ h
  refine wpAny_call (codeAny_mono (F.run X.A X.stack s H ⟨us, []⟩ (us ++ ds) (vs ++ dvs) Q E hr I.env0 (hb s us I.kIn hl) r2 h) fun r s' hq => ?_)
  cases r with
  | error e => exact hx pins σ H s e s' I hq
  | ok fl =>
    cases fl with
    | ret u => exact I.after hq
    | next => exact False.elim hq
    | brk => exact False.elim hq
    | cont => exact False.elim hq

theorem pe_call (F : FnOk X.prog X.w X.K X.mg X.base CX k f fd ps sp) (hr : Room k X.A) (hg : Gl X x) (hm : X.mg x = some (.ref f)) (hk : PySem.W.keepIn X.K (.ref f) = true) (hb : Binds X.K fd ps ds) (hd : Vals dvs ds) (hx : Passes CX X E)
    (ha : PA X (e :: es) t) (hdb : (x == ("__debug__" : Str)) = false := by decide) (he : starEach (e :: es) X.env = (false, eval e X.env) :: starEach es X.env := by rfl) (hpl : (backTo pos (starEach es X.env)).any (·.1) = false := by rfl) :
    PE X (.Call (.Name x p) (e :: es) [] pos) (tCall sp dvs E t) := by
  intro pins s σ H Q I h
  refine wpAny_Call_Name_kw (ld_glob I hg hm ?_ hdb)
  refine PySem.W.callWith_K (h₀ := X.base) I.ok.mod.kin hk (thn (ha pos pins s σ H _ I h) fun us s1 ⟨vs, H1, I1, r, q⟩ => ⟨I1.kIn, ?_⟩) he hpl
  exact run_fn F hr hb hd hx I1 r q
theorem pe_call0 (F : FnOk X.prog X.w X.K X.mg X.base CX k f fd ps sp) (hr : Room k X.A) (hg : Gl X x) (hm : X.mg x = some (.ref f)) (hk : PySem.W.keepIn X.K (.ref f) = true) (hb : Binds X.K fd ps ds) (hd : Vals dvs ds) (hx : Passes CX X E)
    (hdb : (x == ("__debug__" : Str)) = false := by decide) : PE X (.Call (.Name x p) [] [] pos) (tCall sp dvs E tNil) := by
  intro pins s σ H Q I h
  refine wpAny_Call_Name_kw (ld_glob I hg hm ?_ hdb)
  exact PySem.W.callWith_K0 I.kIn hk (run_fn (us := []) F hr hb hd hx I .nil h)

/-- o.m(e, ..) -/
theorem pe_meth {pl : Sem Bool} (he : PE X o ta) (c : Cls X.K C) (hm : Meth X.K C m f) (F : FnOk X.prog X.w X.K X.mg X.base CX k f fd ps sp) (hr : Room k X.A) (hb : Binds X.K fd ps ds) (hd : Vals dvs ds) (hx : Passes CX X E) (ha : PA X (e :: es) t)
    (hst : starEach (e :: es) X.env = (false, eval e X.env) :: starEach es X.env := by rfl) (hpl : (backTo pos (starEach es X.env)).any (·.1) = false := by rfl)
    (ht : eval (.Call (.Attribute o m apos) (e :: es) [] pos) X.env = (do
      let ov ← eval o X.env
      standAt apos.atName
      let (f, first) ← holding [ov] (getMethod ov m pl)
      callWith pos f first (backTo pos (starEach (e :: es) X.env)) (backToKw pos (keywordEach [] X.env))) := by rfl) :
    PE X (.Call (.Attribute o m apos) (e :: es) [] pos) (tMeth C m sp dvs E ta t) := by
  intro pins s σ H Q I h
  refine PySem.W.methodCall_KW (pl := pl) (thn (he pins s σ H _ I h) fun u s1 ⟨x, H1, I1, rx, a, dx, fs, ex, ea, l, q⟩ => ?_) ht
  subst ex
  obtain rfl : u = Value.ref a := rx
  refine getmeth_ok I1 ea c hm l ?_
  refine PySem.W.callWith_K (first := [.ref a]) (h₀ := X.base) I.ok.mod.kin hm.kp (thn (ha pos pins s1 σ H1 _ I1 q) fun us s2 ⟨vs, H2, I2, r, q2⟩ => ⟨I2.kIn, ?_⟩) hst hpl
  exact run_fn (us := .ref a :: us) (vs := .ref a :: vs) F hr hb hd hx I2 (.cons rfl r) q2
/-- o.m() -/
theorem pe_meth0 {pl : Sem Bool} (he : PE X o ta) (c : Cls X.K C) (hm : Meth X.K C m f) (F : FnOk X.prog X.w X.K X.mg X.base CX k f fd ps sp) (hr : Room k X.A) (hb : Binds X.K fd ps ds) (hd : Vals dvs ds) (hx : Passes CX X E)
    (ht : eval (.Call (.Attribute o m apos) [] [] pos) X.env = (do
      let ov ← eval o X.env
      standAt apos.atName
      let (f, first) ← holding [ov] (getMethod ov m pl)
      callWith pos f first (backTo pos (starEach [] X.env)) (backToKw pos (keywordEach [] X.env))) := by rfl) :
    PE X (.Call (.Attribute o m apos) [] [] pos) (tMeth C m sp dvs E ta tNil) := by
  intro pins s σ H Q I h
  refine PySem.W.methodCall_KW (pl := pl) (thn (he pins s σ H _ I h) fun u s1 ⟨x, H1, I1, rx, a, dx, fs, ex, ea, l, q⟩ => ?_) ht
  subst ex
  obtain rfl : u = Value.ref a := rx
  refine getmeth_ok I1 ea c hm l ?_
  exact PySem.W.callWith_K0 (first := [.ref a]) I1.kIn hm.kp (run_fn (us := [.ref a]) (vs := [.ref a]) F hr hb hd hx I1 (.cons rfl .nil) q)

/-- what a class must have to be made -/
structure Mk (K : PySem.W.Frag) (C f : Addr) : Prop where
  makes : PySem.W.makesIn K C = true
  init : PySem.W.findIn K (.ref C) "__init__" = some (some (.ref f))
  fn : PySem.W.isFn K (.ref f) = true
  kp : PySem.W.keepIn K (.ref C) = true

theorem run_make {pins : List (Addr × Obj)} {σ : St} {H : Hp} {s : Shared} {Q : VK} {us : List Value} {vs : List V} (M : Mk X.K C f) (F : FnOk X.prog X.w X.K X.mg X.base CX k f fd ps sp) (hr : Room (k + 1) X.A) (hb : Binds X.K fd ps ds) (hd : Vals dvs ds)
    (hx : Passes CX X E) (I : Inv X pins σ H s) (r : Vals vs us)
    (h : ∀ x dx, H x = none → H dx = none → dx ≠ x → sp (.ref x :: (vs ++ dvs)) (upd (upd H dx (.own x)) x (.ins C dx [])) (fun v H2 => v = .non ∧ Q (.ref x) H2) E) :
    wpAny (model X.prog X.w) X.A (call (.ref C) us) (EP X pins σ Q) X.xe s := by
  have hq := h (s.heap.objs.size + 1) s.heap.objs.size (I.hok.fresh (Nat.le_succ _)) (I.hok.fresh (Nat.le_refl _)) (Nat.ne_of_lt (Nat.lt_succ_self _))
  have I2 := Inv.made (C := C) I
  have r2 : Vals (V.ref (s.heap.objs.size + 1) :: (vs ++ dvs)) (Value.ref (s.heap.objs.size + 1) :: (us ++ ds)) := .cons rfl (r.append hd)
  have hl : (Value.ref (s.heap.objs.size + 1) :: us ++ ds).length = ps.length := by
    have e := r2.length
    rw [F.len _ _ _ _ hq] at e
    exact e.symm
  refine wpAny_call (make_map (f := f) I.kIn M.makes M.init (beq_iff_eq.mp M.fn) (codeAny_mono (F.run _ X.stack _ _ ⟨Value.ref (s.heap.objs.size + 1) :: us, []⟩ (Value.ref (s.heap.objs.size + 1) :: (us ++ ds)) _ _ E (hr.make C us [])
    (I2.env0.make C us []) (hb _ (Value.ref (s.heap.objs.size + 1) :: us) I2.kIn hl) r2 hq) fun r s' hq' => ?_))
  cases r with
  | error e => exact hx pins σ _ _ e s' I2 hq'
  | ok fl =>
    cases fl with
    | ret u =>
      obtain ⟨v, H', I3, rv, ev, q3⟩ := I2.after hq'
      subst ev
      exact ⟨rv, ⟨V.ref (s.heap.objs.size + 1), H', I3, rfl, q3⟩⟩
    | next => exact False.elim hq'
    | brk => exact False.elim hq'
    | cont => exact False.elim hq'
theorem pe_make (M : Mk X.K C f) (F : FnOk X.prog X.w X.K X.mg X.base CX k f fd ps sp) (hr : Room (k + 1) X.A) (hg : Gl X x) (hm : X.mg x = some (.ref C)) (hb : Binds X.K fd ps ds) (hd : Vals dvs ds) (hx : Passes CX X E)
    (ha : PA X (e :: es) t) (hdb : (x == ("__debug__" : Str)) = false := by decide) (he : starEach (e :: es) X.env = (false, eval e X.env) :: starEach es X.env := by rfl) (hpl : (backTo pos (starEach es X.env)).any (·.1) = false := by rfl) :
    PE X (.Call (.Name x p) (e :: es) [] pos) (tMake C sp dvs E t) := by
  intro pins s σ H Q I h
  refine wpAny_Call_Name_kw (ld_glob I hg hm ?_ hdb)
  refine PySem.W.callWith_K (h₀ := X.base) I.ok.mod.kin M.kp (thn (ha pos pins s σ H _ I h) fun us s1 ⟨vs, H1, I1, r, q⟩ => ⟨I1.kIn, ?_⟩) he hpl
  exact run_make M F hr hb hd hx I1 r q
theorem pe_make0 (M : Mk X.K C f) (F : FnOk X.prog X.w X.K X.mg X.base CX k f fd ps sp) (hr : Room (k + 1) X.A) (hg : Gl X x) (hm : X.mg x = some (.ref C)) (hb : Binds X.K fd ps ds) (hd : Vals dvs ds) (hx : Passes CX X E)
    (hdb : (x == ("__debug__" : Str)) = false := by decide) : PE X (.Call (.Name x p) [] [] pos) (tMake C sp dvs E tNil) := by
  intro pins s σ H Q I h
  refine wpAny_Call_Name_kw (ld_glob I hg hm ?_ hdb)
  exact PySem.W.callWith_K0 I.kIn M.kp (run_make (us := []) M F hr hb hd hx I .nil h)
end

/-! ### keywords -/
/-- the values of the keywords, from the left -/
def PK (X : Cx) (kws : List Keyword) (t : TA) : Prop :=
  ∀ (pos : Pos) (pins : List (Addr × Obj)) (s : Shared) (σ : St) (H : Hp) (Q : List V → Hp → Prop), Inv X pins σ H s → t σ H Q → wpAny (model X.prog X.w) X.A (evalAll ((backToKw pos (keywordEach kws X.env)).map (·.2))) (AP X pins σ Q) X.xe s
section
variable {X : Cx} {CX : CXT} {k : Nat} {f C : Addr} {fd : FuncData} {ps ks : List Str} {sp : Sp} {E : XK} {x m : Str} {p pos apos kpos : Pos} {e o : Expr} {es : List Expr} {kws : List Keyword} {te ta : TE} {t tk : TA} {nm : Option Str}
theorem pk_nil : PK X [] tNil := fun _ _ _ _ H Q I h => wpAny_evalAll_nil ⟨[], H, I, .nil, h⟩
theorem pk_cons (ha : PE X e te) (hr : PK X kws t) : PK X (⟨nm, e, kpos⟩ :: kws) (tCons te t) := by
  intro pos pins s σ H Q I h
  show wpAny _ _ (evalAll ((do let v ← eval e X.env; standAt pos; pure v) :: (backToKw pos (keywordEach kws X.env)).map (·.2))) _ _ s
  refine wpAny_evalAll_cons (wpAny_bind (thn (ha pins s σ H _ I h) fun u s1 ⟨x, H1, I1, r1, q1⟩ => wpAny_bind (wpAny_standAt (wpAny_pure ?_))))
  exact thn (hr pos pins s1 σ H1 _ I1 q1) fun us s2 ⟨xs, H2, I2, r2, q2⟩ => ⟨x :: xs, H2, I2, .cons r1 r2, q2⟩

/-- how a call with keywords binds: g puts the positional values us and the keywords' values ws (names ks) in the parameters' order, defaults among them -/
structure KBinds (K : PySem.W.Frag) (fd : FuncData) (ps ks : List Str) (g : List Value → List Value → List Value) (gV : List V → List V → List V) : Prop where
  to : ∀ (s : Shared) (us ws : List Value), K.In s.heap → (g us ws).length = ps.length → BindsTo s fd ⟨us, ks.zip ws⟩ (ps.zip (g us ws))
  rel : ∀ {vs : List V} {us : List Value} {zs : List V} {ws : List Value}, Vals vs us → Vals zs ws → Vals (gV vs zs) (g us ws)
def tCallK (sp : Sp) (gV : List V → List V → List V) (E : XK) (t tk : TA) : TE := fun σ H Q => t σ H fun vs H1 => tk σ H1 fun zs H2 => sp (gV vs zs) H2 Q E
variable {g : List Value → List Value → List Value} {gV : List V → List V → List V}
theorem run_fnk {pins : List (Addr × Obj)} {σ : St} {H : Hp} {s : Shared} {Q : VK} {us ws : List Value} {vs zs : List V} (F : FnOk X.prog X.w X.K X.mg X.base CX k f fd ps sp) (hr : Room k X.A) (hb : KBinds X.K fd ps ks g gV) (hx : Passes CX X E)
    (I : Inv X pins σ H s) (r : Vals vs us) (rz : Vals zs ws) (h : sp (gV vs zs) H Q E) : wpAny (model X.prog X.w) X.A (call (.ref f) us (ks.zip ws)) (EP X pins σ Q) X.xe s := by
  have r2 := hb.rel r rz
  have hl : (g us ws).length = ps.length := by rw [← r2.length]; exact F.len _ _ _ _ h
  refine wpAny_call (codeAny_mono (F.run X.A X.stack s H ⟨us, ks.zip ws⟩ (g us ws) (gV vs zs) Q E hr I.env0 (hb.to s us ws I.kIn hl) r2 h) fun r s' hq => ?_)
  cases r with
  | error e => exact hx pins σ H s e s' I hq
  | ok fl =>
    cases fl with
    | ret u => exact I.after hq
    | next => exact False.elim hq
    | brk => exact False.elim hq
    | cont => exact False.elim hq
/-- f(e, .., k = v, ..) -/
theorem pe_callK (F : FnOk X.prog X.w X.K X.mg X.base CX k f fd ps sp) (hr : Room k X.A) (hg : Gl X x) (hm : X.mg x = some (.ref f)) (hk : PySem.W.keepIn X.K (.ref f) = true) (hb : KBinds X.K fd ps ks g gV) (hx : Passes CX X E)
    (ha : PA X (e :: es) t) (hkw : PK X kws tk) (hall : (backToKw pos (keywordEach kws X.env)).all (·.1.isSome) = true := by rfl) (hks : (backToKw pos (keywordEach kws X.env)).filterMap (·.1) = ks := by rfl)
    (hdb : (x == ("__debug__" : Str)) = false := by decide) (he : starEach (e :: es) X.env = (false, eval e X.env) :: starEach es X.env := by rfl)
    (hpl : ((backTo pos (starEach (e :: es) X.env)).any (·.1) || (backToKw pos (keywordEach kws X.env)).any (·.1.isNone)) = false := by rfl) :
    PE X (.Call (.Name x p) (e :: es) kws pos) (tCallK sp gV E t tk) := by
  intro pins s σ H Q I h
  refine wpAny_Call_Name_kw (ld_glob I hg hm ?_ hdb)
  refine PySem.W.callWith_KW (h₀ := X.base) I.ok.mod.kin hk hall (thn (ha pos pins s σ H _ I h) fun us s1 ⟨vs, H1, I1, r, q⟩ => ?_) hpl he
  refine thn (hkw pos pins s1 σ H1 _ I1 q) fun ws s2 ⟨zs, H2, I2, rz, q2⟩ => ⟨I2.kIn, ?_⟩
  rw [hks]
  exact run_fnk F hr hb hx I2 r rz q2
end

/-! ### a def's body keeps its promise -/
/-- names: the parameters first -/
structure FnScope (N P : List Str) (sc : Scope) : Prop where
  kind : sc.kind = .function
  co : sc.isCoroutine = false
  gen : sc.isGenerator = false
  nd : N.Nodup
  pre : N.take P.length = P
  par : ∀ x ∈ P, sc.names.lookup x = some .local ∨ sc.names.lookup x = some .cell
  nofree : ∀ y ∈ sc.names, y.2 ≠ .free

theorem bindL_out {kindOf : Str → Option NameKind} {x : Str} : ∀ {binds : List (Str × Value)} {m : Str → Option Value}, (∀ v, (x, v) ∉ binds) → bindL kindOf binds m x = m x
  | [], _, _ => rfl
  | (n, v) :: r, m, h => by
    unfold bindL
    rw [bindL_out fun w hw => h w (List.mem_cons_of_mem _ hw)]
    split
    · have : x ≠ n := by rintro rfl; exact h v List.mem_cons_self
      simp [this]
    · rfl
theorem bindC_out {kindOf : Str → Option NameKind} {x : Str} : ∀ {binds : List (Str × Value)} {m : Str → Option Value}, (∀ v, (x, v) ∉ binds) → bindC kindOf binds m x = m x
  | [], _, _ => rfl
  | (n, v) :: r, m, h => by
    unfold bindC
    rw [bindC_out fun w hw => h w (List.mem_cons_of_mem _ hw)]
    split
    · rfl
    · have : x ≠ n := by rintro rfl; exact h v List.mem_cons_self
      simp [this]
theorem bindL_get {kindOf : Str → Option NameKind} {x : Str} {v : Value} : ∀ {P : List Str} {vs : List Value} {i : Nat} {m : Str → Option Value}, P.Nodup → P[i]? = some x → vs[i]? = some v → kindOf x = some .local →
    bindL kindOf (P.zip vs) m x = some v
  | [], _, _, _, _, h, _, _ => by simp at h
  | _ :: _, [], _, _, _, _, h, _ => by simp at h
  | p :: P, w :: vs, 0, m, nd, h1, h2, hk => by
    simp at h1 h2; subst h1; subst h2
    show bindL kindOf ((p, w) :: P.zip vs) m p = _
    unfold bindL
    rw [bindL_out fun v hv => (List.nodup_cons.mp nd).1 (List.of_mem_zip hv).1, if_pos hk]
    simp
  | p :: P, w :: vs, i + 1, m, nd, h1, h2, hk => by
    show bindL kindOf ((p, w) :: P.zip vs) m x = _
    unfold bindL
    exact bindL_get (i := i) (List.nodup_cons.mp nd).2 (by simpa using h1) (by simpa using h2) hk
theorem bindC_get {kindOf : Str → Option NameKind} {x : Str} {v : Value} : ∀ {P : List Str} {vs : List Value} {i : Nat} {m : Str → Option Value}, P.Nodup → P[i]? = some x → vs[i]? = some v → kindOf x ≠ some .local →
    bindC kindOf (P.zip vs) m x = some v
  | [], _, _, _, _, h, _, _ => by simp at h
  | _ :: _, [], _, _, _, _, h, _ => by simp at h
  | p :: P, w :: vs, 0, m, nd, h1, h2, hk => by
    simp at h1 h2; subst h1; subst h2
    show bindC kindOf ((p, w) :: P.zip vs) m p = _
    unfold bindC
    rw [bindC_out fun v hv => (List.nodup_cons.mp nd).1 (List.of_mem_zip hv).1, if_neg hk]
    simp
  | p :: P, w :: vs, i + 1, m, nd, h1, h2, hk => by
    show bindC kindOf ((p, w) :: P.zip vs) m x = _
    unfold bindC
    exact bindC_get (i := i) (List.nodup_cons.mp nd).2 (by simpa using h1) (by simpa using h2) hk

/-- the names' values at the entry -/
def start (N : List Str) (vs : List V) : St := vs.map some ++ List.replicate (N.length - vs.length) none

/-- the context of a def's body, at its entry; an exception leaves the frame, then lies as CX says -/
def cxOf (CX : CXT) (P : Program) (w : World) (K : PySem.W.Frag) (mg : Str → Option Value) (base : Heap) (N : List Str) (qual : Str) (scope : Scope) (f : Addr) (cd : Value) (A : Around) (outer : List Env) (s : Shared) (H : Hp) (E : XK) : Cx where
  prog := P
  w := w
  K := K
  mg := mg
  base := base
  A := A.deeper (envOfC qual scope s.heap.objs.size f cd)
  N := N
  s₀ := s
  H₀ := H
  env := envOfC qual scope s.heap.objs.size f cd
  outer := outer
  stack := envOfC qual scope s.heap.objs.size f cd :: outer
  ex := []
  calm := true
  fn := fun _ => true
  pn := []
  xe := fun e s' => wpAny (model P w) (A.deeper (envOfC qual scope s.heap.objs.size f cd)) (leaving (envOfC qual scope s.heap.objs.size f cd) e) (fun _ s'' => CX outer H s E e s'') (fun e' s'' => CX outer H s E e' s'') s'

theorem cell_has {sc : Scope} {n : Nat} {x : Str} (h : sc.names.lookup x = some .cell) : ∃ c, (cellsFrom n sc.names []).lookup x = some c := by
  have q := PySem.W.cellsFrom_some sc.names n [] (.inl h)
  exact Option.isSome_iff_exists.mp q

theorem inv_start {CX : CXT} {P : Program} {w : World} {K : PySem.W.Frag} {mg : Str → Option Value} {base : Heap} {N ps : List Str} {qual : Str} {scope : Scope} {f : Addr} {cd : Value} {A : Around} {outer : List Env} {s s1 : Shared} {H : Hp} {E : XK} {us : List Value} {vs : List V}
    (S : FnScope N ps scope) (hd : A.handled = none) (e0 : Env0 P w K mg base A outer s H) (hl : vs.length = ps.length) (r : Vals vs us)
    (x : InCallC s s.heap.objs.size (bindL (envOfC qual scope s.heap.objs.size f cd).kindOf (ps.zip us) fun _ => none) (cellsFrom (s.heap.objs.size + 1) scope.names []) (bindC (envOfC qual scope s.heap.objs.size f cd).kindOf (ps.zip us) fun _ => none) s1) :
    Inv (cxOf CX P w K mg base N qual scope f cd A outer s H E) [] (start N vs) H s1 := by
  have hpl : ps.length ≤ N.length := by have := congrArg List.length S.pre; rw [List.length_take] at this; omega
  obtain ⟨h1, tk, rfl, hk⟩ := x.done
  have noA : ∀ b : Addr, b ∉ (cxOf CX P w K mg base N qual scope f cd A outer s H E).ex := fun b z => absurd (show b ∈ ([] : List Addr) from z) (by simp)
  refine ⟨⟨e0.mod, S.kind, rfl, rfl, Nat.le_refl _, fun y z c h1 h2 => ?_, fun y hy => ?_, fun y c _ h => ?_, fun _ => hd, Around.frames_deeper e0.frames, .inr ⟨rfl, rfl⟩, fun b z => absurd z (noA b), e0.bs, e0.bsz, fun b _ _ => noA b, fun b z => absurd z (noA b), e0.funs, e0.frf⟩,
    rfl, e0.bare, Un.kept hk, ⟨_, x.toInCall.ns, fun i y v h1 h2 h3 => ?_⟩, fun y c h => ⟨_, x.cell y c h⟩, e0.hok.fresh (Nat.le_refl _), fun y c h => ?_, fun p hp => absurd (show p ∈ ([] : List (Addr × Obj)) from hp) (by simp), e0.hok.kept hk, ?_⟩
  · exact name_of_addr x.apart (PySem.mem_of_lookup h1) (PySem.mem_of_lookup h2)
  · have hy : scope.names.lookup y = some .cell ∨ scope.names.lookup y = some .free := hy
    rcases hy with hy | hy
    · exact cell_has hy
    · exact absurd rfl (S.nofree _ (PySem.mem_of_lookup hy))
  · exact Nat.le_of_lt (x.above y c (PySem.mem_of_lookup h))
  · have hi : i < vs.length := by
      unfold start at h2
      by_cases hi : i < vs.length
      · exact hi
      · rw [List.getElem?_append_right (by simpa using hi)] at h2
        rw [List.getElem?_replicate] at h2
        split at h2 <;> cases h2
    have ha : vs[i]? = some v := by
      unfold start at h2
      rw [List.getElem?_append_left (by simpa using hi), List.getElem?_map] at h2
      cases e : vs[i]? with
      | none => rw [e] at h2; cases h2
      | some a => rw [e] at h2; cases h2; rfl
    obtain ⟨u, hu, rv⟩ := r.get ha
    have hp : ps[i]? = some y := by
      rw [← S.pre, List.getElem?_take_of_lt (by omega)]; exact h1
    have ndP : ps.Nodup := by rw [← S.pre]; exact S.nd.sublist (List.take_sublist _ _)
    refine ⟨u, rv, ?_⟩
    rcases S.par y (List.mem_of_getElem? hp) with k | k
    · exact .inl ⟨k, bindL_get ndP hp hu k⟩
    · obtain ⟨c, e⟩ := cell_has (n := s.heap.objs.size + 1) k
      refine .inr ⟨.inl k, c, e, ?_⟩
      have q := x.cell y c e
      rw [bindC_get ndP hp hu (by show scope.names.lookup y ≠ _; rw [k]; decide)] at q
      exact q
  · exact e0.hok.fresh (Nat.le_of_lt (x.above y c (PySem.mem_of_lookup h)))
  · unfold start
    show _ = N.length
    rw [List.length_append, List.length_map, List.length_replicate]
    omega

/-- THE RULE: a def (or a method) of the text, by its body. The body's reading t is chosen for each entry; it is run at the parameters' values -/
theorem fn_of {CX : CXT} {P : Program} {w : World} {K : PySem.W.Frag} {mg : Str → Option Value} {base : Heap} {k : Nat} {f : Addr} {name qual : Str} {params : Arguments} {body : List Stmt} {scope : Scope} {dV kV doc pm cdv ct oc : Value} {an od : Option Addr}
    {osl : Array (Option Value)} {N ps : List Str} {sp : Sp} (lk : K.lookup f = some ⟨oc, od, .func (PySem.W.fnOf name qual params body scope dV kV doc pm an cdv ct), osl⟩) (hcd : PySem.W.codeIn K cdv qual = true) (S : FnScope N ps scope)
    (len : ∀ vs H Q E, sp vs H Q E → vs.length = ps.length)
    (hbody : ∀ (A : Around) (outer : List Env) (s : Shared) (H : Hp) (vs : List V) (Q : VK) (E : XK), Room k (A.deeper (envOfC qual scope s.heap.objs.size f cdv)) → sp vs H Q E →
      ∃ t, PSs (cxOf CX P w K mg base N qual scope f cdv A outer s H E) body t ∧ t { nx := fun _ H' => Q .non H', rt := Q } (start N vs) H) :
    FnOk P w K mg base CX (k + 1) f (PySem.W.fnOf name qual params body scope dV kV doc pm an cdv ct) ps sp := by
  refine ⟨len, fun A outer s H args us vs Q E hr e0 hb r hsp => ?_⟩
  have hl := len _ _ _ _ hsp
  have KX : K.In s.heap := e0.mod.kin.keeps fun b o e => (e0.bs b o e).1
  have lim : s.heap.NoLimit := e0.mod.nolimit.keeps fun b o e => (e0.bs b o e).1
  have hkind : ∀ y ∈ ps.zip us, scope.names.lookup y.1 = some .local ∨ (scope.names.lookup y.1 = some .cell ∧ ((cellsFrom (s.heap.objs.size + 1) scope.names []).lookup y.1).isSome = true) := fun ⟨n, v⟩ hy => by
    rcases S.par n (List.of_mem_zip hy).1 with q | q
    · exact .inl q
    · exact .inr ⟨q, PySem.W.cellsFrom_some _ _ _ (.inl q)⟩
  refine codeAny_call_function hr.depth (KX _ _ lk) rfl S.co S.gen rfl (PySem.W.codeRec_of KX hcd) (hb _ _ _ _ ?_)
  refine wpAny_newFunctionEnv_cells S.kind hkind fun env he s1 x => ?_
  subst he
  refine ⟨lim.keeps x.toInCall.keep, codeAny_func ?_⟩
  obtain ⟨t, ht, hq⟩ := hbody A outer s H vs Q E (hr.deeper _) hsp
  have I : Inv (cxOf CX P w K mg base N qual scope f cdv A outer s H E) [] (start N vs) H s1 := inv_start S hr.hd e0 hl r x
  refine wpAny_mono (ht [] s1 (start N vs) H _ I hq) (fun fl s' hs => ?_) fun e s' hs => hs
  have fin : ∀ {σ' : St} {H' : Hp} {v : V} {u : Value}, Inv (cxOf CX P w K mg base N qual scope f cdv A outer s H E) [] σ' H' s' → RelV v u → Q v H' → CE outer P w H s Q u s' :=
    fun {σ' H' v u} J rv q => ⟨v, H', J.os, J.bare, J.base, J.hok, rv, q⟩
  cases fl with
  | ret u =>
    obtain ⟨v, σ', H', J, rv, q⟩ := hs
    exact fin J rv q
  | next =>
    obtain ⟨σ', H', J, q⟩ := hs
    exact fin (v := V.non) (u := Value.none) J rfl q
  | brk =>
    obtain ⟨_, _, _, q⟩ := hs
    exact False.elim q
  | cont =>
    obtain ⟨_, _, _, q⟩ := hs
    exact False.elim q
end L2

namespace L2
open PySem PySem.Spec PyProof.Rows
section
variable {X : Cx} {x : Str} {p pos : Pos} {e : Expr} {es : List Expr} {t : TA} {id T : String} {r : List V → Hp → VK → Prop}

def tCB (r : List V → Hp → VK → Prop) (t : TA) : TE := fun σ H Q => t σ H fun vs H1 => r vs H1 Q
/-- f(e, ..), f a built-in function -/
theorem pe_callB (hc : CallR X (.builtin id) r) (hg : Gl X x) (hm : X.mg x = none) (hv : bootBuiltins x = some (.builtin id)) (ha : PA X (e :: es) t) (hn : x ≠ "__name__" := by decide) (hdb : (x == ("__debug__" : Str)) = false := by decide)
    (he : starEach (e :: es) X.env = (false, eval e X.env) :: starEach es X.env := by rfl) (hpl : (backTo pos (starEach es X.env)).any (·.1) = false := by rfl) : PE X (.Call (.Name x p) (e :: es) [] pos) (tCB r t) := by
  intro pins s σ H Q I h
  refine wpAny_Call_Name_kw (ld_blt I hg hm hv ?_ hn hdb)
  exact PyProof.Rows.callWith_builtin1 (thn (ha pos pins s σ H _ I h) fun us s1 ⟨vs, H1, I1, r1, q1⟩ => hc pins s1 σ H1 vs us Q I1 r1 q1) he hpl
/-- T(e, ..), T a built-in type -/
theorem pe_callTy (hc : CallR X (.type T) r) (hg : Gl X x) (hm : X.mg x = none) (hv : bootBuiltins x = some (.type T)) (ha : PA X (e :: es) t) (hn : x ≠ "__name__" := by decide) (hdb : (x == ("__debug__" : Str)) = false := by decide)
    (he : starEach (e :: es) X.env = (false, eval e X.env) :: starEach es X.env := by rfl) (hpl : (backTo pos (starEach es X.env)).any (·.1) = false := by rfl) : PE X (.Call (.Name x p) (e :: es) [] pos) (tCB r t) := by
  intro pins s σ H Q I h
  refine wpAny_Call_Name_kw (ld_blt I hg hm hv ?_ hn hdb)
  exact PyProof.Rows.callWith_type1 (thn (ha pos pins s σ H _ I h) fun us s1 ⟨vs, H1, I1, r1, q1⟩ => hc pins s1 σ H1 vs us Q I1 r1 q1) he hpl
/-- T() -/
theorem pe_callTy0 (hc : CallR X (.type T) r) (hg : Gl X x) (hm : X.mg x = none) (hv : bootBuiltins x = some (.type T)) (hn : x ≠ "__name__" := by decide) (hdb : (x == ("__debug__" : Str)) = false := by decide) :
    PE X (.Call (.Name x p) [] [] pos) (tCB r tNil) := by
  intro pins s σ H Q I h
  refine wpAny_Call_Name_kw (ld_blt I hg hm hv ?_ hn hdb)
  exact PyProof.Rows.callWith_type0 (hc pins s σ H [] [] Q I .nil h)
end
end L2

namespace HT
open PySem PyProof.Rows

/-- t < u of tuples of ints -/
def lexLt : List Int → List Int → Bool
  | [], [] => false
  | [], _ :: _ => true
  | _ :: _, [] => false
  | x :: xs, y :: ys => if x = y then lexLt xs ys else decide (x < y)
theorem lexLt_cons (x y : Int) (xs ys : List Int) : lexLt (x :: xs) (y :: ys) = if x = y then lexLt xs ys else decide (x < y) := rfl
theorem lexLt_nil_nil : lexLt [] [] = false := rfl
theorem lexLt_nil_cons (y : Int) (ys : List Int) : lexLt [] (y :: ys) = true := rfl
theorem lexLt_cons_nil (x : Int) (xs : List Int) : lexLt (x :: xs) [] = false := rfl

theorem eqAt_int (A : Around) (s : Shared) (a : Int) (t : Tok) (c : Int) (u : Tok) : ∃ e, SeqAt.EqAt A s (.int a t) (.int c u) e ∧ (e = true ↔ a = c) :=
  ⟨(a == c), SeqAt.EqAt.int_int a t c u, by simp⟩
theorem rcLt_int (A : Around) (s : Shared) (a : Int) (t : Tok) (c : Int) (u : Tok) (prog : Program) (w : World) (E : Value → Shared → Prop) (Q : Value → Shared → Prop) (h : Q (.bool (decide (a < c))) s) :
    wpAny (model prog w) A (richCompare .Lt (.int a t) (.int c u)) Q E s :=
  (PyProof.Rows.lt_int h : wpAny (model prog w) A (compareOp .Lt (.int a t) (.int c u)) Q E s)

section
open PySem.SeqAt
open PySem.AutoSeq1 (wpAny_loadPart')
open PySem.MeetsSeq PySem.MeetsSeq2 PySem.MeetsSeq3

theorem tuple_lt_ints (l b : Addr) (items items2 : Array Value) (n n2 : Nat) (dd dd2 : Option Addr) (sl sl2 : Array (Option Value)) (ns ms : List Int) (hi : IntsAre items.toList ns) (hj : IntsAre items2.toList ms) :
    Meets (Builtin.«tuple.__lt__» ⟨[.ref l, .ref b], []⟩)
      (fun _ R s => s.heap.get? l = some { cls := .type "tuple", dict := dd, data := .seq items n, slots := sl } ∧ s.heap.get? b = some { cls := .type "tuple", dict := dd2, data := .seq items2 n2, slots := sl2 } ∧
        R (.ok (.ret (.bool (lexLt ns ms)))) s) :=
  .of_wp fun prog w A R s h => by
    obtain ⟨hp, g, d, tk, os⟩ := s; obtain ⟨hl, hb, h⟩ := h
    have f2 := AutoSeq1.sub_tuple_tuple
    have z1 : items.size = ns.length := by rw [← hi.length]; simp
    have z2 : items2.size = ms.length := by rw [← hj.length]; simp
    wp_walk using wpAny_loadPart' hl, wpAny_loadPart' hb, wpAny_forIn_list _ (fun rest b s' => b.1 = none ∧ s' = ⟨hp, g, d, tk, os⟩ ∧ ∃ (vs ws : List Value) (ns' ms' : List Int), rest = vs.zip ws ∧
      IntsAre vs ns' ∧ IntsAre ws ms' ∧ ns'.length + items2.size = ms'.length + items.size ∧ R (.ok (.ret (.bool (lexLt ns' ms')))) ⟨hp, g, d, tk, os⟩) _
    case turn =>
      rintro ⟨y, x⟩ rest b s' ⟨hb', rfl, vs, ws, ns', ms', hz, hvi, hwi, hlen, hR⟩
      cases hvi with
      | nil => rw [List.zip_nil_left] at hz; cases hz
      | cons a t hvi' =>
        cases hwi with
        | nil => rw [List.zip_nil_right] at hz; cases hz
        | cons c u hwi' =>
          rw [List.zip_cons_cons] at hz
          injection hz with hyx hrest
          injection hyx with hy hx
          subst hy hx
          rw [lexLt_cons] at hR
          simp only [List.length_cons] at hlen
          obtain ⟨e, he, hiff⟩ := eqAt_int A.in1 ⟨hp, g, d, tk, os⟩ a t c u
          refine wpAny_bind (he prog w _ _ ?_)
          cases e with
          | true =>
            rw [if_pos (hiff.mp rfl)] at hR
            wp_walk
            exact ⟨rfl, rfl, _, _, _, _, hrest, hvi', hwi', by omega, hR⟩
          | false =>
            rw [if_neg (fun q => absurd (hiff.mpr q) Bool.false_ne_true)] at hR
            have hri := rcLt_int A.in1 ⟨hp, g, d, tk, os⟩ a t c u prog w
            wp_walk using hri
            exact ⟨_, rfl, by simpa using hR⟩
    case fin =>
      rintro ⟨b1, b2⟩ s' ⟨hb', rfl, vs, ws, ns', ms', hz, hvi, hwi, hlen, hR⟩
      simp only at hb'
      subst hb'
      have hv : lexLt ns' ms' = decide (items.size < items2.size) := by
        cases hvi with
        | nil =>
          cases hwi with
          | nil =>
            simp only [List.length_nil] at hlen
            rw [lexLt_nil_nil]
            exact (decide_eq_false (by omega)).symm
          | cons c u hw =>
            simp only [List.length_nil, List.length_cons] at hlen
            rw [lexLt_nil_cons]
            exact (decide_eq_true (by omega)).symm
        | cons a t hv =>
          cases hwi with
          | nil =>
            simp only [List.length_nil, List.length_cons] at hlen
            rw [lexLt_cons_nil]
            exact (decide_eq_false (by omega)).symm
          | cons c u hw =>
            rw [List.zip_cons_cons] at hz
            cases hz
      rw [hv] at hR
      wp_walk
      exact ⟨_, rfl, by simpa [Builtin.Tuple.tupleCompareSizes] using hR⟩
    case h =>
      exact ⟨rfl, rfl, items.toList, items2.toList, ns, ms, rfl, hi, hj, by omega, h⟩
end

section
variable {prog : Program} {w : World} {A : Around} {E : Value → Shared → Prop} {s : Shared}

theorem lt_tupInts {l b : Addr} {items items2 : Array Value} {ns ms : List Int} {Q : Value → Shared → Prop} (hl : IsTup s.heap l items) (hb : IsTup s.heap b items2) (hi : IntsAre items.toList ns) (hj : IntsAre items2.toList ms)
    (hu : A.units < cLine) (h : Q (.bool (lexLt ns ms)) s) : wpAny (model prog w) A (compareOp .Lt (.ref l) (.ref b)) Q E s := by
  obtain ⟨⟨cls, dd, data, sl⟩, ho, hc, n, hd⟩ := id hl
  obtain ⟨⟨cls2, dd2, data2, sl2⟩, ho2, hc2, n2, hd2⟩ := id hb
  simp only at hc hd hc2 hd2
  subst hc hd hc2 hd2
  exact richCompare_meets_room (op := .Lt) ⟨_, ho, rfl⟩ ⟨_, ho2, rfl⟩ PySem.F.slot_tuple_lt PySem.F.entry_tuple_lt (PySem.F.args_tuple_lt_2 _ _) (tuple_lt_ints l b items items2 n n2 dd dd2 sl sl2 ns ms hi hj)
    ⟨ho, ho2, show Value.bool (lexLt ns ms) ≠ Value.notImplemented ∧ Q (.bool (lexLt ns ms)) s from ⟨(fun x => nomatch x), h⟩⟩ hu

/-- t + u, t not empty -/
theorem cat_tup {t b : Addr} {vs ws : List Value} {Q : Value → Shared → Prop} (ht : IsTup s.heap t vs.toArray) (hb : IsTup s.heap b ws.toArray) (hv : vs ≠ [])
    (h1 : ws = [] → Q (.ref t) s) (h2 : ws ≠ [] → Q (.ref s.heap.objs.size) { s with heap := s.heap.push { cls := .type "tuple", data := .seq (vs ++ ws).toArray } })
    (hsz : vs.length + ws.length ≤ sizeLine) : wpAny (model prog w) A (binaryOp .Add (.ref t) (.ref b)) Q E s := by
  obtain ⟨⟨cls, dd, data, sl⟩, ho, hc, n, hd⟩ := id ht
  obtain ⟨⟨cls2, dd2, data2, sl2⟩, ho2, hc2, n2, hd2⟩ := id hb
  simp only at hc hd hc2 hd2
  subst hc hd hc2 hd2
  have e : vs.toArray ++ ws.toArray = (vs ++ ws).toArray := by simp
  by_cases hw : ws = []
  · exact concat_meets ⟨_, ho, rfl⟩ ⟨_, ho2, rfl⟩ noFill_tuple_add seq_tuple_add PySem.F.slot_tuple_add PySem.F.entry_tuple_add (PySem.F.args_tuple_add_2 _ _)
      (tuple_addW1 t b vs.toArray ws.toArray n n2 dd dd2 sl sl2 (by simpa using hv) (by simp [hw])) ⟨ho, ho2, h1 hw⟩
  · refine concat_meets ⟨_, ho, rfl⟩ ⟨_, ho2, rfl⟩ noFill_tuple_add seq_tuple_add PySem.F.slot_tuple_add PySem.F.entry_tuple_add (PySem.F.args_tuple_add_2 _ _)
      (tuple_addW2 t b vs.toArray ws.toArray n n2 dd dd2 sl sl2 (by simpa using hv) (by simpa using hw) (by rw [List.size_toArray, List.size_toArray]; exact hsz)) ⟨ho, ho2, ?_⟩
    rw [e]
    exact h2 hw

/-! ### t[a:b], not the whole -/
/-- a slice's bound as a place among n (d where it is left out) -/
def sIx (n d : Nat) : Option Int → Nat
  | none => d
  | some v => if v < 0 then (v + (n : Int)).toNat else min v.toNat n
theorem sIx_none (n d : Nat) : sIx n d none = d := rfl
theorem sIx_nat (n d k : Nat) : sIx n d (some (k : Int)) = min k n := by
  show (if (k : Int) < 0 then ((k : Int) + (n : Int)).toNat else min (k : Int).toNat n) = min k n
  rw [if_neg (by omega), Int.toNat_natCast]
theorem sIx_le (n d : Nat) (hd : d ≤ n) (o : Option Int) : sIx n d o ≤ n := by
  cases o with
  | none => exact hd
  | some v =>
    show (if v < 0 then (v + (n : Int)).toNat else min v.toNat n) ≤ n
    by_cases hv : v < 0
    · rw [if_pos hv]; omega
    · rw [if_neg hv]; exact Nat.min_le_right _ _
theorem clip_eq (v : Int) (n d : Nat) : (if v < 0 then max (v + (n : Int)) 0 else min v (n : Int)) = ((sIx n d (some v) : Nat) : Int) := by
  show (if v < 0 then max (v + (n : Int)) 0 else min v (n : Int)) = (((if v < 0 then (v + (n : Int)).toNat else min v.toNat n) : Nat) : Int)
  by_cases hv : v < 0
  · simp only [if_pos hv]; omega
  · simp only [if_neg hv]; omega
theorem adjust_gen (lo hi : Option Int) (n : Nat) : Builtin.Slice.sliceAdjust lo hi 1 (n : Int) = (((sIx n 0 lo : Nat) : Int), ((sIx n n hi : Nat) : Int)) := by
  have h1 : ¬ ((1 : Int) < 0) := by omega
  unfold Builtin.Slice.sliceAdjust
  simp only [h1, if_false]
  refine Prod.ext ?_ ?_
  · cases lo with
    | none => rfl
    | some v => exact clip_eq v n 0
  · cases hi with
    | none => rfl
    | some v => exact clip_eq v n n
theorem places_gen (i j : Nat) : Builtin.Slice.slicePlaces (i : Int) (j : Int) 1 = j - i := by
  unfold Builtin.Slice.slicePlaces
  have h1 : (1 : Int) > 0 := by omega
  simp only [h1, if_true, Int.ediv_one]
  split <;> omega
theorem slicePart_ {v : Value} {o : Option Int} {Q : Option Int → Shared → Prop} (p : IsPart v o) (h : Q o s) : wpAny (model prog w) A (Builtin.Slice.slicePartIndex v) Q E s := by
  cases p with
  | none => exact slicePart_none h
  | int i t => exact slicePart_int h
theorem sliceApplied_gen {sl : Addr} {vl vu : Value} {lo hi : Option Int} {n : Nat} {Q : Int × Int × Nat → Shared → Prop} (hs : s.heap.IsSliceOf sl vl vu .none) (pl : IsPart vl lo) (pu : IsPart vu hi)
    (h : Q (((sIx n 0 lo : Nat) : Int), 1, sIx n n hi - sIx n 0 lo) s) : wpAny (model prog w) A (Builtin.Slice.sliceApplied (.ref sl) (pure (n : Int))) Q E s := by
  obtain ⟨os, hos, hcs, hds⟩ := id hs
  unfold Builtin.Slice.sliceApplied Builtin.Slice.sliceFields
  refine wpAny_bind (wpAny_bind (wpAny_field hos hds (x := vl) rfl (wpAny_bind (wpAny_field hos hds (x := vu) rfl (wpAny_bind (wpAny_field hos hds (x := .none) rfl (wpAny_pure ?_)))))))
  refine wpAny_bind (slicePart_none ?_)
  show wpAny _ _ (if ((1 : Int) == 0) = true then _ else _) _ _ s
  rw [if_neg (by decide)]
  refine wpAny_bind (slicePart_ pl (wpAny_bind (slicePart_ pu (wpAny_bind (wpAny_pure ?_)))))
  show wpAny _ _ (match Builtin.Slice.sliceAdjust lo hi 1 (n : Int) with | (lo, hi) => pure (lo, (1 : Int), Builtin.Slice.slicePlaces lo hi 1)) _ _ s
  rw [adjust_gen lo hi n]
  show wpAny _ _ (pure (((sIx n 0 lo : Nat) : Int), (1 : Int), Builtin.Slice.slicePlaces ((sIx n 0 lo : Nat) : Int) ((sIx n n hi : Nat) : Int) 1)) _ _ s
  rw [places_gen]
  exact wpAny_pure h
theorem pick_gen (xs : Array Value) (i k : Nat) : ((List.range k).filterMap fun (m : Nat) => xs[((i : Int) + (m : Int) * 1).toNat]?).toArray = ((xs.toList.drop i).take k).toArray := by
  have e : (fun (m : Nat) => xs[((i : Int) + (m : Int) * 1).toNat]?) = fun m => xs[i + m]? := by
    funext m
    have : ((i : Int) + (m : Int) * 1).toNat = i + m := by omega
    rw [this]
  rw [e]
  have := pick_run xs i k
  rw [List.filterMap_map] at this
  have e2 : ((fun x => xs[x]?) ∘ fun x => i + x) = fun m => xs[i + m]? := rfl
  rw [e2] at this
  rw [this]

theorem getItem_tuple_cut {t sl : Addr} {items : Array Value} {vl vu : Value} {lo hi : Option Int} {Q : Value → Shared → Prop} (ht : IsTup s.heap t items) (hs : s.heap.IsSliceOf sl vl vu .none) (pl : IsPart vl lo) (pu : IsPart vu hi)
    (hw : ¬ (sIx items.size 0 lo = 0 ∧ sIx items.size items.size hi = items.size))
    (h : Q (.ref s.heap.objs.size) { s with heap := s.heap.push { cls := .type "tuple", data := .seq ((items.toList.drop (sIx items.size 0 lo)).take (sIx items.size items.size hi - sIx items.size 0 lo)).toArray } })
    (hsz : items.size ≤ sizeLine) : wpAny (model prog w) A (getItem (.ref t) (.ref sl)) Q E s := by
  have htake : sizeOk (.seq ((items.toList.drop (sIx items.size 0 lo)).take (sIx items.size items.size hi - sIx items.size 0 lo)).toArray) := by
    show ((items.toList.drop (sIx items.size 0 lo)).take (sIx items.size items.size hi - sIx items.size 0 lo)).toArray.size ≤ sizeLine
    rw [List.size_toArray, List.length_take, List.length_drop, Array.length_toList]
    omega
  have hj : sIx items.size items.size hi ≤ items.size := sIx_le _ _ (Nat.le_refl _) hi
  obtain ⟨os, hos, hcs, hds⟩ := id hs
  have hTs : s.TypeIs (.ref sl) "slice" := ⟨os, hos, hcs⟩
  unfold getItem
  try with_reducible refine wpAny_holding ?_
  first | refine wpAny_bind (wpAny_pure ?_) | skip
  refine wpAny_bind (wpAny_sequenceKey ht.typeIs (by decide) ?_)
  refine wpAny_bind (wpAny_callSpecial?_slot (name := Str.ofString "__getitem__") ht.typeIs PyProof.Rows.slot_tuple_getitem
    (wpAny_call_entry PyProof.Rows.slot_tuple_getitem ht.typeIs entry_tuple_getitem ?_ (args_tuple_getitem _ _)))
  show wpAny _ _ (Builtin.Tuple.tupleItemsOf (.ref t) >>= _) _ _ s
  refine wpAny_bind (tupleItemsOf_ ht ?_)
  refine wpAny_bind (wpAny_typeOf hTs ?_)
  rw [if_pos (by decide)]
  refine wpAny_bind (sliceApplied_gen hs pl pu ?_)
  have hno : ¬ ((((sIx items.size 0 lo : Nat) : Int) == 0 && (1 : Int) == 1 && (sIx items.size items.size hi - sIx items.size 0 lo) == items.size) = true) := by
    intro q
    rw [Bool.and_eq_true, Bool.and_eq_true] at q
    have q1 : ((sIx items.size 0 lo : Nat) : Int) = 0 := eq_of_beq q.1.1
    have q2 : sIx items.size items.size hi - sIx items.size 0 lo = items.size := eq_of_beq q.2
    exact hw ⟨by omega, by omega⟩
  show wpAny _ _ (if (((sIx items.size 0 lo : Nat) : Int) == 0 && (1 : Int) == 1 && (sIx items.size items.size hi - sIx items.size 0 lo) == items.size) = true then _ else _) _ _ s
  rw [if_neg hno, pick_gen]
  first
    | exact wpAny_bind (m := Builtin.Tuple.tupleExact _) (wpAny_newObj_type (wpAny_pure ⟨_, rfl, wpAny_pure h⟩) htake)
    | exact wpAny_bind (m := Builtin.Tuple.tupleExact _) (wpAny_newObj_type (wpAny_bind (wpAny_pure (wpAny_pure ⟨_, rfl, wpAny_pure h⟩))) htake)
    | exact wpAny_bind (wpAny_bind (m := Builtin.Tuple.tupleExact _) (wpAny_newObj_type (wpAny_pure (wpAny_pure ⟨_, rfl, wpAny_pure h⟩)) htake))
    | exact wpAny_bind (wpAny_bind (m := Builtin.Tuple.tupleExact _) (wpAny_newObj_type (wpAny_pure ⟨_, rfl, wpAny_pure h⟩) htake))
end
end HT

namespace L2
open PySem PySem.Spec PyProof.Rows

/-! ### the parts of a slice -/
abbrev TO := St → Hp → (Option Int → Hp → Prop) → Prop
/-- a slice's part (left out, or an int) -/
def PO (X : Cx) (e : Option Expr) (t : TO) : Prop :=
  ∀ (pins : List (Addr × Obj)) (s : Shared) (σ : St) (H : Hp) (Q : Option Int → Hp → Prop), Inv X pins σ H s → t σ H Q →
    wpAny (model X.prog X.w) X.A (evalPart e X.env) (fun u s' => ∃ o H', Inv X pins σ H' s' ∧ IsPart u o ∧ Q o H') X.xe s
def tNoPart : TO := fun _ H Q => Q none H
def tPart (t : TE) : TO := fun σ H Q => t σ H fun x H1 => ∃ i, x = .int i ∧ Q (some i) H1

theorem intsAre_of {ns : List Int} : ∀ {us : List Value}, Vals (ns.map V.int) us → IntsAre us ns := by
  induction ns with
  | nil => intro us r; rw [List.map_nil] at r; cases r; exact .nil
  | cons n ns ih =>
    intro us r
    rw [List.map_cons] at r
    cases r with
    | cons r1 r2 =>
      obtain ⟨t, e⟩ := r1
      subst e
      exact .cons n t (ih r2)

section
variable {X : Cx} {e : Expr} {te : TE} {lo hi : Option Expr} {tl th : TO} {pos p2 : Pos}

theorem po_none : PO X none tNoPart := by
  intro pins s σ H Q I h
  rw [evalPart_none]
  exact wpAny_pure ⟨none, H, I, .none, h⟩
theorem po_some (h : PE X e te) : PO X (some e) (tPart te) := by
  intro pins s σ H Q I hw
  rw [evalPart_some]
  refine thn (h pins s σ H _ I hw) fun u s1 ⟨x, H1, I1, r1, q1⟩ => ?_
  obtain ⟨i, rfl, q⟩ := q1
  obtain ⟨t, rfl⟩ := r1
  exact ⟨some i, H1, I1, .int i t, q⟩

/-- what a slice of a value is, by values: the slice object stands at sl -/
def SlR (X : Cx) (r : V → Option Int → Option Int → Hp → VK → Prop) : Prop :=
  ∀ (pins : List (Addr × Obj)) (s : Shared) (σ : St) (H : Hp) (x : V) (v vl vu : Value) (lo hi : Option Int) (sl : Addr) (Q : VK), Inv X pins σ H s → RelV x v → s.heap.IsSliceOf sl vl vu .none → IsPart vl lo → IsPart vu hi → r x lo hi H Q →
    ∃ T id, typeLookup (.type T) "__getitem__" = pure (some (.builtin id)) ∧ s.TypeIs v T ∧ wpAny (model X.prog X.w) X.A (getItem v (.ref sl)) (EP X pins σ Q) X.xe s
theorem SlR.or {r r' : V → Option Int → Option Int → Hp → VK → Prop} (h : SlR X r) (h' : SlR X r') : SlR X (fun x lo hi H Q => r x lo hi H Q ∨ r' x lo hi H Q) := by
  intro pins s σ H x v vl vu lo hi sl Q I rx hs pl pu q
  rcases q with q | q
  · exact h pins s σ H x v vl vu lo hi sl Q I rx hs pl pu q
  · exact h' pins s σ H x v vl vu lo hi sl Q I rx hs pl pu q
def tSl (r : V → Option Int → Option Int → Hp → VK → Prop) (te : TE) (tl th : TO) : TE := fun σ H Q => te σ H fun x H1 => tl σ H1 fun l H2 => th σ H2 fun u H3 => r x l u H3 Q
/-- a[lo:hi], any a -/
theorem pe_slice {r : V → Option Int → Option Int → Hp → VK → Prop} (hr : SlR X r) (he : PE X e te) (hl : PO X lo tl) (hu : PO X hi th) : PE X (.Subscript e (.Slice lo hi none p2) pos) (tSl r te tl th) := by
  intro pins s σ H Q I h
  refine Subscript_ (thn (he pins s σ H _ I h) fun v s1 ⟨x, H1, I1, r1, q1⟩ => ?_)
  refine wpAny_Slice (thn (hl pins s1 σ H1 _ I1 q1) fun vl s2 ⟨l, H2, I2, pl, q2⟩ => thn (hu pins s2 σ H2 _ I2 q2) fun vu s3 ⟨u, H3, I3, pu, q3⟩ => ?_)
  rw [evalPart_none]
  refine wpAny_pure ?_
  have I4 : Inv X pins σ H3 { s3 with heap := s3.heap.push { cls := .type "slice", data := .fields #[vl, vu, .none] } } := I3.kept (t' := s3.toks) fun b ob q => Heap.get?_push_of_some _ q
  obtain ⟨T, id, hT, ht, hg⟩ := hr pins { s3 with heap := s3.heap.push { cls := .type "slice", data := .fields #[vl, vu, .none] } } σ H3 x v vl vu l u s3.heap.objs.size Q I4 r1 (Heap.IsSliceOf.new ..) pl pu q3
  show wpAny (model X.prog X.w) X.A (subscriptTail e (.Slice lo hi none p2) v (.ref s3.heap.objs.size)) (EP X pins σ Q) X.xe { s3 with heap := s3.heap.push { cls := .type "slice", data := .fields #[vl, vu, .none] } }
  exact tail_any (ops := [.ref s3.heap.objs.size, v]) ht hT hg (by with_unfolding_all rfl)

/-- the items of xs[lo:hi] -/
def cutV (xs : List V) (lo hi : Option Int) : List V := (xs.drop (HT.sIx xs.length 0 lo)).take (HT.sIx xs.length xs.length hi - HT.sIx xs.length 0 lo)
theorem cutV_length (xs : List V) (lo hi : Option Int) : (cutV xs lo hi).length ≤ xs.length := by
  unfold cutV
  rw [List.length_take, List.length_drop]
  omega
/-- t[lo:hi], not the whole of it (the whole would be t itself) -/
def rSlT (K : PySem.W.Frag) : V → Option Int → Option Int → Hp → VK → Prop := fun x lo hi H Q => ∃ a xs, x = .ref a ∧ SqT K H a xs ∧
  ¬ (HT.sIx xs.length 0 lo = 0 ∧ HT.sIx xs.length xs.length hi = xs.length) ∧ ∀ p, H p = none → Q (.ref p) (upd H p (.tup (cutV xs lo hi)))
theorem sl_tup : SlR X (rSlT X.K) := by
  intro pins s σ H x v vl vu lo hi sl Q I rx hs pl pu h
  obtain ⟨a, xs, rfl, hx, hw, q⟩ := h
  cases rx
  obtain ⟨its, r, ht, hz⟩ := I.tuple hx
  have hlen : its.toArray.size = xs.length := by rw [List.size_toArray]; exact r.length.symm
  refine ⟨"tuple", _, PyProof.Rows.slot_tuple_getitem.lookup, ht.typeIs, ?_⟩
  refine HT.getItem_tuple_cut ht hs pl pu (by rw [hlen]; exact hw) ?_ (by rw [hlen]; exact hz)
  rw [hlen]
  refine ⟨.ref s.heap.objs.size, _, I.laid (t' := s.toks) (o := .tup (cutV xs lo hi)) (fun b ob q => Heap.get?_push_of_some _ q) (Nat.le_refl _) ?_, rfl, q _ (I.hok.fresh (Nat.le_refl _))⟩
  exact ⟨Nat.le_trans (cutV_length xs lo hi) hz, _, (r.drop (HT.sIx xs.length 0 lo)).take (HT.sIx xs.length xs.length hi - HT.sIx xs.length 0 lo), IsTup.new _ _⟩

/-! ### t < u, t + u -/
def rLtT (K : PySem.W.Frag) : R2 := fun x y H Q => ∃ a b ns ms, x = .ref a ∧ y = .ref b ∧ SqT K H a (ns.map V.int) ∧ SqT K H b (ms.map V.int) ∧ Q (.bl (HT.lexLt ns ms)) H
theorem op_ltT (hu : X.A.units < cLine) : OpR X (compareOp .Lt) (rLtT X.K) := by
  intro pins s σ H x y v u Q I rx ry h
  obtain ⟨a, b, ns, ms, rfl, rfl, ha, hb, q⟩ := h
  cases rx
  cases ry
  obtain ⟨its, r1, p1, _⟩ := I.tuple ha
  obtain ⟨its2, r2, p2, _⟩ := I.tuple hb
  have i1 : IntsAre its.toArray.toList ns := intsAre_of r1
  have i2 : IntsAre its2.toArray.toList ms := intsAre_of r2
  exact HT.lt_tupInts p1 p2 i1 i2 hu ⟨.bl (HT.lexLt ns ms), H, I, rfl, q⟩
/-- t + u, t not empty: u empty gives t itself -/
def rCatT (K : PySem.W.Frag) : R2 := fun x y H Q => ∃ a b xs ys, x = .ref a ∧ y = .ref b ∧ SqT K H a xs ∧ SqT K H b ys ∧ xs ≠ [] ∧ xs.length + ys.length ≤ sizeLine ∧
  (ys = [] → Q (.ref a) H) ∧ (ys ≠ [] → ∀ p, H p = none → Q (.ref p) (upd H p (.tup (xs ++ ys))))
theorem Vals.nil_iff {xs : List V} {us : List Value} (r : Vals xs us) : us = [] ↔ xs = [] := by
  cases r with
  | nil => simp
  | cons _ _ => simp
theorem op_catT : OpR X (binaryOp .Add) (rCatT X.K) := by
  intro pins s σ H x y v u Q I rx ry h
  obtain ⟨a, b, xs, ys, rfl, rfl, ha, hb, hx, hz, q1, q2⟩ := h
  cases rx
  cases ry
  obtain ⟨its, r1, p1, _⟩ := I.tuple ha
  obtain ⟨its2, r2, p2, _⟩ := I.tuple hb
  refine HT.cat_tup p1 p2 (fun z => hx (r1.nil_iff.mp z)) (fun z => ⟨.ref a, H, I, rfl, q1 (r2.nil_iff.mp z)⟩) (fun z => ?_) (by rw [← r1.length, ← r2.length]; exact hz)
  refine ⟨.ref s.heap.objs.size, _, I.laid (t' := s.toks) (o := .tup (xs ++ ys)) (fun b ob q => Heap.get?_push_of_some _ q) (Nat.le_refl _) ?_, rfl, q2 (fun w => z (r2.nil_iff.mpr w)) _ (I.hok.fresh (Nat.le_refl _))⟩
  exact ⟨by rw [List.length_append]; exact hz, _, r1.append r2, IsTup.new _ _⟩
/-- tuple(t) -/
theorem call_tupleT : CallR X (.type "tuple") (fun xs H Q => ∃ a ys, xs = [.ref a] ∧ SqT X.K H a ys ∧ Q (.ref a) H) := by
  intro pins s σ H xs us Q I r h
  obtain ⟨a, ys, rfl, ha, q⟩ := h
  obtain ⟨u, rfl, ru⟩ := vals1 r
  cases ru
  obtain ⟨its, _, p1, _⟩ := I.tuple ha
  exact call_tuple_same (items := its.toArray) p1 ⟨.ref a, H, I, rfl, q⟩
end
end L2

namespace L2
open PySem PySem.Spec PyProof.Rows

/-! ### places -/
/-- the place that an index of any sign means -/
def ixN (n : Nat) (i : Int) : Option Nat := if 0 ≤ i then (if i < n then some i.toNat else none) else if -(n : Int) ≤ i then some (i + n).toNat else none
def atI {α : Type} (xs : List α) (i : Int) : Option α := (ixN xs.length i).bind fun j => xs[j]?
theorem ixN_seq {n : Nat} {i : Int} {j : Nat} (h : ixN n i = some j) : seqIndex? i n = some j ∧ j < n ∧ -(n : Int) ≤ i ∧ i < n := by
  unfold ixN at h
  by_cases h0 : 0 ≤ i
  · rw [if_pos h0] at h
    by_cases h1 : i < n
    · rw [if_pos h1] at h
      have e : i.toNat = j := Option.some.inj h
      exact ⟨by rw [seqIndex_of h0 h1, e], by omega, by omega, h1⟩
    · rw [if_neg h1] at h; cases h
  · rw [if_neg h0] at h
    by_cases h1 : -(n : Int) ≤ i
    · rw [if_pos h1] at h
      have e : (i + n).toNat = j := Option.some.inj h
      exact ⟨by rw [seqIndex_neg (by omega) h1, e], by omega, h1, by omega⟩
    · rw [if_neg h1] at h; cases h
theorem atI_get {α : Type} {xs : List α} {i : Int} {v : α} (h : atI xs i = some v) : ∃ j, seqIndex? i xs.length = some j ∧ xs[j]? = some v ∧ j < xs.length ∧ -(xs.length : Int) ≤ i ∧ i < xs.length := by
  unfold atI at h
  cases e : ixN xs.length i with
  | none => rw [e] at h; cases h
  | some j =>
    rw [e] at h
    obtain ⟨h1, h2, h3, h4⟩ := ixN_seq e
    exact ⟨j, h1, h, h2, h3, h4⟩
theorem atI_nat {α : Type} {xs : List α} {j : Nat} {v : α} (h : xs[j]? = some v) : atI xs (j : Int) = some v := by
  have hj : j < xs.length := (List.getElem?_eq_some_iff.mp h).1
  have e : ixN xs.length (j : Int) = some j := by
    unfold ixN
    rw [if_pos (by omega), if_pos (by omega)]; simp
  unfold atI; rw [e]; exact h
theorem atI_last {α : Type} (xs : List α) (v : α) : atI (xs ++ [v]) (-1) = some v := by
  have hl : (xs ++ [v]).length = xs.length + 1 := by simp
  have e : ixN (xs ++ [v]).length (-1) = some xs.length := by
    unfold ixN
    rw [hl, if_neg (by decide), if_pos (by omega)]
    congr 1
    omega
  unfold atI
  rw [e]
  show (xs ++ [v])[xs.length]? = some v
  simp

/-! ### what may be subscripted -/
/-- what stands as an index of a plain subscript -/
def PlainIx (b : Expr) : Prop := ∀ o i, subscripted b false o i = operate [o, i] (getItem o i)
/-- a subscript by values -/
def IxR (X : Cx) (r : R2) : Prop :=
  ∀ (value slice : Expr) (pins : List (Addr × Obj)) (s : Shared) (σ : St) (H : Hp) (x y : V) (v u : Value) (Q : VK), Inv X pins σ H s → RelV x v → RelV y u → r x y H Q →
    subscripted slice false v u = operate [v, u] (getItem v u) → wpAny (model X.prog X.w) X.A (subscriptTail value slice v u) (EP X pins σ Q) X.xe s
/-- a call of a builtin's method by values: the receiver, the arguments -/
def MtR (X : Cx) (id : String) (r : V → List V → Hp → VK → Prop) : Prop :=
  ∀ (pins : List (Addr × Obj)) (s : Shared) (σ : St) (H : Hp) (x : V) (xs : List V) (v : Value) (us : List Value) (Q : VK), Inv X pins σ H s → RelV x v → Vals xs us → r x xs H Q →
    wpAny (model X.prog X.w) X.A (call (.builtin id) (v :: us)) (EP X pins σ Q) X.xe s
section
variable {X : Cx} {a b : Expr} {ta tb : TE} {pos : Pos}
theorem IxR.or {r r' : R2} (h : IxR X r) (h' : IxR X r') : IxR X (fun x y H Q => r x y H Q ∨ r' x y H Q) := by
  intro value slice pins s σ H x y v u Q I rx ry q hs
  rcases q with q | q
  · exact h value slice pins s σ H x y v u Q I rx ry q hs
  · exact h' value slice pins s σ H x y v u Q I rx ry q hs
theorem MtR.or {id : String} {r r' : V → List V → Hp → VK → Prop} (h : MtR X id r) (h' : MtR X id r') : MtR X id (fun x xs H Q => r x xs H Q ∨ r' x xs H Q) := by
  intro pins s σ H x xs v us Q I rx rs q
  rcases q with q | q
  · exact h pins s σ H x xs v us Q I rx rs q
  · exact h' pins s σ H x xs v us Q I rx rs q
/-- a[b] -/
theorem pe_ix {r : R2} (hr : IxR X r) (ha : PE X a ta) (hb : PE X b tb) (hs : PlainIx b) : PE X (.Subscript a b pos) (tOp r ta tb) := by
  intro pins s σ H Q I h
  exact Subscript_ (binT ha hb I h fun v u s2 x y H2 I2 rx ry q => hr a b pins s2 σ H2 x y v u Q I2 rx ry q (hs _ _))

def rIxL (K : PySem.W.Frag) : R2 := fun x y H Q => ∃ p xs i v, x = .ref p ∧ y = .int i ∧ SqL K H p xs ∧ atI xs i = some v ∧ Q v H
def rIxT (K : PySem.W.Frag) : R2 := fun x y H Q => ∃ p xs i v, x = .ref p ∧ y = .int i ∧ SqT K H p xs ∧ atI xs i = some v ∧ Q v H
def rIxS : R2 := fun x y H Q => ∃ z i c, x = .str z ∧ y = .int i ∧ z.length ≤ sizeLine ∧ atI z.cps.toList i = some c ∧ Q (.str ⟨#[c]⟩) H
theorem ix_list : IxR X (rIxL X.K) := by
  intro value slice pins s σ H x y v u Q I rx ry h hs
  obtain ⟨p, xs, i, z, rfl, rfl, hq, he, q⟩ := h
  cases rx
  obtain ⟨t, rfl⟩ := ry
  obtain ⟨its, r, pl, hz⟩ := I.list hq
  obtain ⟨j, h1, h2, h3, h4, h5⟩ := atI_get he
  obtain ⟨w, ew, rw'⟩ := r.get h2
  have hl := r.length
  have hn := line63
  have fin : EP X pins σ Q w s := ⟨z, H, I, rw', q⟩
  by_cases h0 : 0 ≤ i
  · have hj : i.toNat = j := by
      rw [seqIndex_of h0 h5] at h1
      exact Option.some.inj h1
    exact item_listR pl.isList h0 (by omega) (by rw [hj]; simpa using ew) fin hs
  · have hj : (i + (its.toArray.size : Int)).toNat = j := by
      rw [seqIndex_neg (by omega) h4] at h1
      rw [List.size_toArray, ← hl]
      exact Option.some.inj h1
    exact subscriptTail_builtinR (x := w) pl.isList.typeIs slot_list_getitem.lookup
      (wpAny_getItem_list_neg (Q := fun r s' => r = w ∧ EP X pins σ Q r s') pl.isList (by omega) (by rw [List.size_toArray] <;> omega) (by omega) (by rw [hj]; simpa using ew) ⟨rfl, fin⟩) hs
theorem ix_tup : IxR X (rIxT X.K) := by
  intro value slice pins s σ H x y v u Q I rx ry h hs
  obtain ⟨p, xs, i, z, rfl, rfl, hq, he, q⟩ := h
  cases rx
  obtain ⟨t, rfl⟩ := ry
  obtain ⟨its, r, pl, hz⟩ := I.tuple hq
  obtain ⟨j, h1, h2, h3, h4, h5⟩ := atI_get he
  obtain ⟨w, ew, rw'⟩ := r.get h2
  have hl := r.length
  have hn := line63
  have fin : EP X pins σ Q w s := ⟨z, H, I, rw', q⟩
  exact subscriptTail_builtinR (x := w) pl.typeIs slot_tuple_getitem.lookup
    (getItem_tuple (j := j) (Q := fun r s' => r = w ∧ EP X pins σ Q r s') pl (by omega) (by omega) (by rw [List.size_toArray, ← hl]; exact h1) (by simpa using ew) ⟨rfl, fin⟩) hs
theorem ix_str : IxR X rIxS := by
  intro value slice pins s σ H x y v u Q I rx ry h hs
  obtain ⟨z, i, c, rfl, rfl, hz, he, q⟩ := h
  obtain ⟨t, rfl⟩ := rx
  obtain ⟨t', rfl⟩ := ry
  obtain ⟨j, h1, h2, h3, h4, h5⟩ := atI_get he
  have hl : z.cps.toList.length = z.length := by simp [Str.length]
  rw [hl] at h1 h4 h5
  have hn := line63
  exact tail_any (typeIs_str s z t) slot_str_getitem.lookup (getItem_str (c := c) (by
    have e1 : decide (i < -(2 ^ 63 : Int)) = false := decide_eq_false (by omega)
    have e2 : decide (i ≥ 2 ^ 63) = false := decide_eq_false (by omega)
    rw [e1, e2, Bool.or_false]) (by rw [h1]; simpa using h2) ⟨.str ⟨#[c]⟩, H, I.tok _, ⟨_, rfl⟩, q⟩) hs
/-- list, tuple or str -/
def rIx (K : PySem.W.Frag) : R2 := fun x y H Q => rIxL K x y H Q ∨ rIxT K x y H Q ∨ rIxS x y H Q
theorem ix_seq : IxR X (rIx X.K) := ix_list.or (ix_tup.or ix_str)

/-! ### xs[i] = v, any sign -/
/-- the list's object behind a store -/
theorem mapSeq_set (its : List Value) (n j : Nat) (u : Value) : Obj.mapSeq (·.setIfInBounds j u) { cls := .type "list", data := .seq its.toArray n } = { cls := .type "list", data := .seq (its.set j u).toArray n } := by
  simp [Obj.mapSeq]
theorem Inv.lst {pins : List (Addr × Obj)} {σ : St} {H : Hp} {s : Shared} {p : Addr} {xs : List V} (I : Inv X pins σ H s) (h : H p = some (.lst xs)) :
    ∃ (its : List Value) (n : Nat), Vals xs its ∧ s.heap.get? p = some { cls := .type "list", data := .seq its.toArray n } ∧ xs.length ≤ sizeLine := by
  obtain ⟨z, its, n, r, e⟩ := I.hok p _ h
  exact ⟨its, n, r, e, z⟩
/-- the list at p is written by an update of its object -/
theorem Inv.lstUpd {pins : List (Addr × Obj)} {σ : St} {H : Hp} {s : Shared} {p : Addr} {xs ys : List V} {its its' : List Value} {n n' : Nat} {f : Obj → Obj} (I : Inv X pins σ H s) (h : H p = some (.lst xs))
    (ho : s.heap.get? p = some { cls := .type "list", data := .seq its.toArray n }) (hf : f { cls := .type "list", data := .seq its.toArray n } = { cls := .type "list", data := .seq its'.toArray n' }) (r : Vals ys its') (hz : ys.length ≤ sizeLine) (t : Nat) :
    Inv X pins σ (upd H p (.lst ys)) { s with heap := s.heap.update p f, toks := t } := by
  have e : (s.heap.update p f).get? p = some { cls := .type "list", data := .seq its'.toArray n' } := by
    rw [Heap.get?_update_self f ho (by rw [hf] <;> rfl), hf]
  refine I.write (x := p) (e := p) (by rw [h]; trivial) (.inl rfl) (fun b u hb q => (Heap.get?_update_other _ _ (Ne.symm hb)).trans q) ⟨_, e⟩ ?_
  exact ⟨hz, its', n', r, e⟩
def rSetL : V → V → V → Hp → (Hp → Prop) → Prop := fun o i v H Q => ∃ p xs k j, o = .ref p ∧ i = .int k ∧ H p = some (.lst xs) ∧ ixN xs.length k = some j ∧ Q (upd H p (.lst (xs.set j v)))
theorem set_list : PSet X rSetL := by
  intro pins s σ H o i v ov iv u Q I ro ri rv h
  obtain ⟨p, xs, k, j, rfl, rfl, hp, hj, q⟩ := h
  cases ro
  obtain ⟨t, rfl⟩ := ri
  obtain ⟨its, n, r, ho, hz⟩ := I.lst hp
  obtain ⟨h1, h2, h3, h4⟩ := ixN_seq hj
  have hl := r.length
  have hn := line63
  have I' : Inv X pins σ (upd H p (.lst (xs.set j v))) { s with heap := s.heap.update p (Obj.mapSeq (·.setIfInBounds j u)) } :=
    I.lstUpd hp ho (mapSeq_set its n j u) (r.set rv j) (by rw [List.length_set]; exact hz) s.toks
  by_cases h0 : 0 ≤ k
  · have hk : k.toNat = j := by
      rw [seqIndex_of h0 h4] at h1
      exact Option.some.inj h1
    exact PySem.W.ki_setAt ho h0 (by omega) (by rw [List.size_toArray, ← hl]; exact h4) (by rw [hk]; exact ⟨_, I', q⟩)
  · have hk : (k + (its.toArray.size : Int)).toNat = j := by
      rw [seqIndex_neg (by omega) h3] at h1
      rw [List.size_toArray, ← hl]
      exact Option.some.inj h1
    exact PySem.W.ki_setBack ho (by omega) (by rw [List.size_toArray, ← hl]; exact h3) (by omega) (by rw [hk]; exact ⟨_, I', q⟩)

/-! ### slices -/
theorem slice_bounds (lo hi : Option Int) (n : Nat) : (sliceBounds lo hi none n).1 = ((HT.sIx n 0 lo : Nat) : Int) ∧ (sliceBounds lo hi none n).2.1 = ((HT.sIx n n hi : Nat) : Int) ∧ (sliceBounds lo hi none n).2.2 = 1 := by
  refine ⟨?_, ?_, rfl⟩
  · cases lo with
    | none => simp [sliceBounds, HT.sIx]
    | some i =>
      simp only [sliceBounds, HT.sIx, Option.getD_none, show (1 : Int) > 0 by decide, if_true]
      by_cases h : i < 0
      · simp only [h, if_true] <;> omega
      · simp only [h, if_false] <;> omega
  · cases hi with
    | none => simp [sliceBounds, HT.sIx]
    | some i =>
      simp only [sliceBounds, HT.sIx, Option.getD_none, show (1 : Int) > 0 by decide, if_true]
      by_cases h : i < 0
      · simp only [h, if_true] <;> omega
      · simp only [h, if_false] <;> omega
theorem slicePick_cut (its : List Value) (lo hi : Option Int) : slicePick its.toArray lo hi none = ((its.drop (HT.sIx its.length 0 lo)).take (HT.sIx its.length its.length hi - HT.sIx its.length 0 lo)).toArray := by
  obtain ⟨h1, h2, h3⟩ := slice_bounds lo hi its.toArray.size
  unfold slicePick
  rw [h1, h2, h3]
  simp only [sliceRange_one, pick_run, List.size_toArray] <;> rfl
/-- xs[lo:hi] of a list: a new list -/
def rSlL (K : PySem.W.Frag) : V → Option Int → Option Int → Hp → VK → Prop := fun x lo hi H Q => ∃ a xs, x = .ref a ∧ SqL K H a xs ∧ ∀ p, H p = none → Q (.ref p) (upd H p (.lst (cutV xs lo hi)))
theorem sl_list : SlR X (rSlL X.K) := by
  intro pins s σ H x v vl vu lo hi sl Q I rx hs pl pu h
  obtain ⟨a, xs, rfl, hx, q⟩ := h
  cases rx
  obtain ⟨its, r, ht, hz⟩ := I.list hx
  have hlen := r.length
  refine ⟨"list", _, slot_list_getitem.lookup, ht.isList.typeIs, ?_⟩
  refine wpAny_getItem_list_slice ht.isList hs pl pu .none (by simp) ?_ (by rw [List.size_toArray] <;> omega)
  rw [slicePick_cut, ← hlen]
  refine ⟨.ref s.heap.objs.size, _, I.laid (t' := s.toks) (o := .lst (cutV xs lo hi)) (fun b ob q => Heap.get?_push_of_some _ q) (Nat.le_refl _) ?_, rfl, q _ (I.hok.fresh (Nat.le_refl _))⟩
  exact ⟨Nat.le_trans (cutV_length xs lo hi) hz, _, 0, (r.drop (HT.sIx xs.length 0 lo)).take (HT.sIx xs.length xs.length hi - HT.sIx xs.length 0 lo), Heap.get?_push_size _ rfl⟩

/-! ### in, not in: flat items -/
def flatV : V → Bool
  | .non => true
  | .bl _ => true
  | .int _ => true
  | .str _ => true
  | _ => false
/-- == of flat values -/
def eqV : V → V → Bool
  | .non, .non => true
  | .bl a, .bl b => a == b
  | .bl a, .int b => (if a then 1 else 0) == b
  | .int a, .bl b => a == (if b then 1 else 0)
  | .int a, .int b => a == b
  | .str a, .str b => a == b
  | _, _ => false
theorem eqAt_V {A : Around} {s : Shared} {y x : V} {u v : Value} (ry : RelV y u) (rx : RelV x v) (fy : flatV y = true) (fx : flatV x = true) : SeqAt.EqAt A s u v (eqV y x) := by
  cases y with
  | non =>
    cases ry
    cases x with
    | non => cases rx; exact SeqAt.EqAt.same _
    | bl b => cases rx; exact SeqAt.EqAt.none_bool b
    | int b => obtain ⟨t, rfl⟩ := rx; exact SeqAt.EqAt.none_int b t
    | str b => obtain ⟨t, rfl⟩ := rx; exact SeqAt.EqAt.none_str b t
    | _ => exact absurd (show false = true from fx) Bool.false_ne_true
  | bl a =>
    cases ry
    cases x with
    | non => cases rx; exact SeqAt.EqAt.bool_none a
    | bl b => cases rx; exact SeqAt.EqAt.bool_bool a b
    | int b => obtain ⟨t, rfl⟩ := rx; exact SeqAt.EqAt.bool_int a b t
    | str b => obtain ⟨t, rfl⟩ := rx; exact SeqAt.EqAt.bool_str a b t
    | _ => exact absurd (show false = true from fx) Bool.false_ne_true
  | int a =>
    obtain ⟨t', rfl⟩ := ry
    cases x with
    | non => cases rx; exact SeqAt.EqAt.int_none a t'
    | bl b => cases rx; exact SeqAt.EqAt.int_bool a t' b
    | int b => obtain ⟨t, rfl⟩ := rx; exact SeqAt.EqAt.int_int a t' b t
    | str b => obtain ⟨t, rfl⟩ := rx; exact SeqAt.EqAt.int_str a t' b t
    | _ => exact absurd (show false = true from fx) Bool.false_ne_true
  | str a =>
    obtain ⟨t', rfl⟩ := ry
    cases x with
    | non => cases rx; exact SeqAt.EqAt.str_none a t'
    | bl b => cases rx; exact SeqAt.EqAt.str_bool a t' b
    | int b => obtain ⟨t, rfl⟩ := rx; exact SeqAt.EqAt.str_int a t' b t
    | str b => obtain ⟨t, rfl⟩ := rx; exact SeqAt.EqAt.str_str a t' b t
    | _ => exact absurd (show false = true from fx) Bool.false_ne_true
  | _ => exact absurd (show false = true from fy) Bool.false_ne_true
/-- the items' answers, read off the values (a value's own answer does not lean on its token) -/
def eqU (x : V) (u : Value) : Bool := match u with
  | .none => eqV .non x
  | .bool b => eqV (.bl b) x
  | .int i _ => eqV (.int i) x
  | .str z _ => eqV (.str z) x
  | _ => false
theorem eqU_of {x y : V} {u : Value} (r : RelV y u) (f : flatV y = true) : eqU x u = eqV y x := by
  cases y with
  | non => cases r; rfl
  | bl b => cases r; rfl
  | int i => obtain ⟨t, rfl⟩ := r; rfl
  | str z => obtain ⟨t, rfl⟩ := r; rfl
  | _ => exact absurd (show false = true from f) Bool.false_ne_true
theorem any_eqU {x : V} : ∀ {xs : List V} {us : List Value}, Vals xs us → xs.all flatV = true → us.any (eqU x) = xs.any fun y => eqV y x
  | _, _, .nil, _ => rfl
  | y :: xs, u :: us, .cons r t, f => by
    rw [List.all_cons, Bool.and_eq_true] at f
    rw [List.any_cons, List.any_cons, eqU_of r f.1, any_eqU t f.2]
theorem mem_eqAt {A : Around} {s : Shared} {x : V} {v : Value} (rx : RelV x v) (fx : flatV x = true) : ∀ {xs : List V} {us : List Value}, Vals xs us → xs.all flatV = true → ∀ u ∈ us, SeqAt.EqAt A s u v (eqU x u)
  | _, _, .nil, _ => fun u hu => by cases hu
  | y :: xs, u :: us, .cons r t, f => fun u' hu => by
    rw [List.all_cons, Bool.and_eq_true] at f
    rcases List.mem_cons.mp hu with rfl | hu
    · rw [eqU_of r f.1]; exact eqAt_V r rx f.1 fx
    · exact mem_eqAt rx fx t f.2 u' hu
def inV (x : V) (xs : List V) : Bool := xs.any fun y => eqV y x
/-- x in a list or tuple of flat items -/
def rIn (K : PySem.W.Frag) (neg : Bool) : R2 := fun x y H Q => ∃ p xs, y = .ref p ∧ (SqL K H p xs ∨ SqT K H p xs) ∧ flatV x = true ∧ xs.all flatV = true ∧ Q (.bl (if neg then !inV x xs else inV x xs)) H
theorem op_in_seq : OpR X (compareOp .In) (rIn X.K false) := by
  intro pins s σ H x y v u Q I rx ry h
  obtain ⟨p, xs, rfl, hq, fx, fs, q⟩ := h
  cases ry
  rcases hq with hq | hq
  · obtain ⟨its, r, pl, hz⟩ := I.list hq
    refine SeqAt.in_listAt (eqU x) pl.isList (fun w hw => mem_eqAt rx fx r fs w (by simpa using hw)) ⟨.bl _, H, I, rfl, ?_⟩
    rw [show its.toArray.any (eqU x) = its.any (eqU x) by simp, any_eqU r fs]
    exact q
  · obtain ⟨its, r, pl, hz⟩ := I.tuple hq
    refine SeqAt.in_tupleAt (eqU x) pl (fun w hw => mem_eqAt rx fx r fs w (by simpa using hw)) ⟨.bl _, H, I, rfl, ?_⟩
    rw [show its.toArray.any (eqU x) = its.any (eqU x) by simp, any_eqU r fs]
    exact q
theorem op_notIn_seq : OpR X (compareOp .NotIn) (rIn X.K true) := by
  intro pins s σ H x y v u Q I rx ry h
  obtain ⟨p, xs, rfl, hq, fx, fs, q⟩ := h
  cases ry
  rcases hq with hq | hq
  · obtain ⟨its, r, pl, hz⟩ := I.list hq
    refine SeqAt.notIn_listAt (eqU x) pl.isList (fun w hw => mem_eqAt rx fx r fs w (by simpa using hw)) ⟨.bl _, H, I, rfl, ?_⟩
    rw [show its.toArray.any (eqU x) = its.any (eqU x) by simp, any_eqU r fs]
    exact q
  · obtain ⟨its, r, pl, hz⟩ := I.tuple hq
    refine SeqAt.notIn_tupleAt (eqU x) pl (fun w hw => mem_eqAt rx fx r fs w (by simpa using hw)) ⟨.bl _, H, I, rfl, ?_⟩
    rw [show its.toArray.any (eqU x) = its.any (eqU x) by simp, any_eqU r fs]
    exact q
theorem op_notIn_str : OpR X (compareOp .NotIn) (fun x y H Q => ∃ i j, x = .str i ∧ y = .str j ∧ Q (.bl (!(!(Builtin.Str.occurrences j i 0 j.length 1).isEmpty))) H) := by
  intro pins s σ H x y v u Q I rx ry h
  obtain ⟨i, j, rfl, rfl, q⟩ := h
  obtain ⟨t, rfl⟩ := rx
  obtain ⟨t', rfl⟩ := ry
  exact notIn_str ⟨.bl _, H, I, rfl, q⟩

/-! ### len, list(x), tuple(x) of any list or tuple that is read -/
theorem call_len_seq : CallR X (.builtin "len") (fun xs H Q => ∃ p ys, xs = [.ref p] ∧ (SqL X.K H p ys ∨ SqT X.K H p ys) ∧ Q (.int ys.length) H) := by
  intro pins s σ H xs us Q I r h
  obtain ⟨p, ys, rfl, hq, q⟩ := h
  obtain ⟨u, rfl, rx⟩ := vals1 r
  cases rx
  have hn := line63
  rcases hq with hq | hq
  · obtain ⟨its, r', pl, hz⟩ := I.list hq
    have hlen := r'.length
    exact Calls.call_len_list pl.isList (by simp only [List.size_toArray] <;> omega) ⟨.int ys.length, H, I.tok _, ⟨s.toks + 1, by rw [List.size_toArray, hlen]⟩, q⟩
  · obtain ⟨its, r', pl, hz⟩ := I.tuple hq
    have hlen := r'.length
    exact len_tuple pl (by simp only [List.size_toArray] <;> omega) ⟨.int ys.length, H, I.tok _, ⟨s.toks + 1, by rw [List.size_toArray, hlen]⟩, q⟩
theorem call_len_str : CallR X (.builtin "len") (fun xs H Q => ∃ z, xs = [.str z] ∧ z.length ≤ sizeLine ∧ Q (.int z.length) H) := by
  intro pins s σ H xs us Q I r h
  obtain ⟨z, rfl, hz, q⟩ := h
  obtain ⟨u, rfl, t, rfl⟩ := vals1 r
  have hn := line63
  exact len_str (by omega) ⟨.int z.length, H, I.tok _, ⟨_, rfl⟩, q⟩
theorem CallR.or {f : Value} {r r' : List V → Hp → VK → Prop} (h : CallR X f r) (h' : CallR X f r') : CallR X f (fun xs H Q => r xs H Q ∨ r' xs H Q) := by
  intro pins s σ H xs us Q I rs q
  rcases q with q | q
  · exact h pins s σ H xs us Q I rs q
  · exact h' pins s σ H xs us Q I rs q
theorem call_list_of : CallR X (.type "list") (fun xs H Q => ∃ p ys, xs = [.ref p] ∧ (SqL X.K H p ys ∨ SqT X.K H p ys) ∧ ∀ l, H l = none → Q (.ref l) (upd H l (.lst ys))) := by
  intro pins s σ H xs us Q I r h
  obtain ⟨p, ys, rfl, hq, q⟩ := h
  obtain ⟨u, rfl, rx⟩ := vals1 r
  cases rx
  have fin : ∀ (its : List Value), Vals ys its → ys.length ≤ sizeLine → ∀ (h' : Heap) (c' : Nat), (∀ b o', s.heap.get? b = some o' → h'.get? b = some o') →
      h'.get? s.heap.objs.size = some { cls := .type "list", dict := none, data := .seq its.toArray c', slots := #[] } → EP X pins σ Q (.ref s.heap.objs.size) { s with heap := h' } := fun its r' hz h' c' kp e =>
    ⟨.ref s.heap.objs.size, _, I.laid (t' := s.toks) kp (Nat.le_refl _) (show ObjOk X.prog X.w _ h' _ (.lst ys) from ⟨hz, its, c', r', e⟩), rfl, q _ (I.hok.fresh (Nat.le_refl _))⟩
  rcases hq with hq | hq
  · obtain ⟨its, r', pl, hz⟩ := I.list hq
    have hlen := r'.length
    obtain ⟨o, ho, hc, n, hd⟩ := pl.isList
    exact call_list_seq p (.inl rfl) ho hc hd (fun h' c' kp e => fin its r' hz h' c' kp e) (by simp only [List.size_toArray] <;> omega)
  · obtain ⟨its, r', pl, hz⟩ := I.tuple hq
    have hlen := r'.length
    obtain ⟨o, ho, hc, n, hd⟩ := pl
    exact call_list_seq p (.inr rfl) ho hc hd (fun h' c' kp e => fin its r' hz h' c' kp e) (by simp only [List.size_toArray] <;> omega)
theorem call_tuple_of : CallR X (.type "tuple") (fun xs H Q => ∃ p ys, xs = [.ref p] ∧ ((SqL X.K H p ys ∧ ∀ l, H l = none → Q (.ref l) (upd H l (.tup ys))) ∨ (SqT X.K H p ys ∧ Q (.ref p) H))) := by
  intro pins s σ H xs us Q I r h
  obtain ⟨p, ys, rfl, h⟩ := h
  obtain ⟨u, rfl, rx⟩ := vals1 r
  cases rx
  rcases h with ⟨hq, q⟩ | ⟨hq, q⟩
  · obtain ⟨its, r', pl, hz⟩ := I.list hq
    have hlen := r'.length
    refine call_tuple_list pl.isList (fun h' kp => ?_) (by simp only [List.size_toArray] <;> omega)
    have I1 : Inv X pins σ H { s with heap := h' } := I.kept (t' := s.toks) kp
    have I2 : Inv X pins σ (upd H h'.objs.size (.tup ys)) { s with heap := h'.push { cls := .type "tuple", data := .seq its.toArray } } :=
      I1.laid (t' := s.toks) (fun b o e => Heap.get?_push_of_some _ e) (Nat.le_refl _) (show ObjOk X.prog X.w _ _ _ (.tup ys) from ⟨hz, its, r', IsTup.new _ _⟩)
    exact ⟨.ref h'.objs.size, _, I2, rfl, q _ (I1.hok.fresh (Nat.le_refl _))⟩
  · obtain ⟨its, r', pl, hz⟩ := I.tuple hq
    exact call_tuple_same pl ⟨.ref p, H, I, rfl, q⟩

/-! ### the call of a builtin's method: o.m(..) -/
/-- the value is of that builtin type -/
def tyV (K : PySem.W.Frag) (T : String) (x : V) (H : Hp) : Prop := match x with
  | .str _ => T = "str"
  | .int _ => T = "int"
  | .ref p => (T = "list" ∧ ∃ xs, SqL K H p xs) ∨ (T = "tuple" ∧ ∃ o, K.lookup p = some o ∧ o.cls = .type "tuple" ∧ o.dict = none) ∨
      (T = "dict" ∧ ((∃ kvs, H p = some (.dK kvs)) ∨ ∃ kvs, H p = some (.dT kvs))) ∨ (T = "set" ∧ ∃ S n, H p = some (.set S n))
  | _ => False
theorem tyV_is {pins : List (Addr × Obj)} {σ : St} {H : Hp} {s : Shared} {T : String} {x : V} {v : Value} (I : Inv X pins σ H s) (r : RelV x v) (ty : tyV X.K T x H) :
    s.TypeIs v T ∧ ∀ a, v = .ref a → ∃ ob, s.heap.get? a = some ob ∧ ob.dict = none := by
  cases x with
  | str z =>
    obtain ⟨t, rfl⟩ := r
    cases (show T = "str" from ty)
    exact ⟨typeIs_str s z t, fun _ e => nomatch e⟩
  | int i =>
    obtain ⟨t, rfl⟩ := r
    cases (show T = "int" from ty)
    exact ⟨typeIs_int s i t, fun _ e => nomatch e⟩
  | ref p =>
    cases r
    rcases ty with ⟨rfl, xs, hq⟩ | ⟨rfl, o, hk, hc, hd⟩ | ⟨rfl, hk⟩ | ⟨rfl, S, n, hk⟩
    · obtain ⟨its, _, pl, _⟩ := I.list hq
      refine ⟨pl.isList.typeIs, fun a e => ?_⟩
      cases e
      obtain ⟨o, n, e, c, hd, _⟩ := pl
      exact ⟨o, e, hd⟩
    · refine ⟨⟨o, I.kIn p o hk, hc⟩, fun a e => ?_⟩
      cases e
      exact ⟨o, I.kIn _ o hk, hd⟩
    · have z : ∃ o, s.heap.get? p = some o ∧ o.ExactDict := by
        rcases hk with ⟨kvs, hk⟩ | ⟨kvs, hk⟩
        · obtain ⟨_, _, _, _, o, _, _, e, ex, _⟩ := I.hok p _ hk
          exact ⟨o, e, ex⟩
        · obtain ⟨_, _, _, _, o, _, _, e, ex, _⟩ := I.hok p _ hk
          exact ⟨o, e, ex⟩
      obtain ⟨o, e, ex⟩ := z
      refine ⟨⟨o, e, ex.1⟩, fun a e2 => ?_⟩
      cases e2
      exact ⟨o, e, ex.2.1⟩
    · obtain ⟨o, _, _, _, e, ex, _⟩ := I.hok p _ hk
      refine ⟨⟨o, e, ex.1⟩, fun a e2 => ?_⟩
      cases e2
      exact ⟨o, e, ex.2.1⟩
  | _ => exact False.elim ty
def tBM0 (K : PySem.W.Frag) (T : String) (r : V → List V → Hp → VK → Prop) (to : TE) : TE := fun σ H Q => to σ H fun x H1 => tyV K T x H1 ∧ r x [] H1 Q
def tBM (K : PySem.W.Frag) (T : String) (r : V → List V → Hp → VK → Prop) (to : TE) (t : TA) : TE := fun σ H Q => to σ H fun x H1 => tyV K T x H1 ∧ t σ H1 fun xs H2 => r x xs H2 Q
variable {o e : Expr} {es : List Expr} {to : TE} {t : TA} {name : Str} {apos cpos : Pos} {T id : String} {r : V → List V → Hp → VK → Prop}
theorem pe_bm0 (pa : PlainAttrs T) (slot : Slot T name id) (hty : typeOf (.builtin id) = pure (.type "method_descriptor")) (hm : MtR X id r) (ho : PE X o to)
    (hbase : attributeBase o name X.env (eval o X.env) = eval o X.env := by rfl) (hline : (apos.endLine == cpos.line) = true := by rfl) : PE X (.Call (.Attribute o name apos) [] [] cpos) (tBM0 X.K T r to) := by
  intro pins s σ H Q I h
  refine wpAny_Call_method0_late hbase hline (thn (ho pins s σ H _ I h) fun v s1 ⟨x, H1, I1, r1, ty, q1⟩ => ?_)
  obtain ⟨h1, h2⟩ := tyV_is I1 r1 ty
  exact ⟨T, id, pa, slot, hty, h1, h2, Calls.callWith_builtin rfl (PySem.evalArgs_none (hm pins s1 σ H1 x [] v [] Q I1 r1 .nil q1))⟩
theorem pe_bm (pa : PlainAttrs T) (slot : Slot T name id) (hty : typeOf (.builtin id) = pure (.type "method_descriptor")) (hm : MtR X id r) (ho : PE X o to) (ha : PA X (e :: es) t)
    (hbase : attributeBase o name X.env (eval o X.env) = eval o X.env := by rfl)
    (hfew : ((backTo cpos (starEach (e :: es) X.env)).all (fun x => !x.1) && (backToKw cpos (keywordEach [] X.env)).all (fun x => x.1.isSome)
      && decide ((e :: es).length + ([] : List Keyword).length + (if ([] : List Keyword).isEmpty then 0 else 1) < 30)) = true := by rfl)
    (hline : (apos.endLine == cpos.line) = true := by rfl) (hs : starEach (e :: es) X.env = (false, eval e X.env) :: starEach es X.env := by rfl) (hplain : (backTo cpos (starEach es X.env)).any (·.1) = false := by rfl) :
    PE X (.Call (.Attribute o name apos) (e :: es) [] cpos) (tBM X.K T r to t) := by
  intro pins s σ H Q I h
  refine wpAny_Call_method_late hbase hfew hline rfl (thn (ho pins s σ H _ I h) fun v s1 ⟨x, H1, I1, r1, ty, q1⟩ => ?_)
  obtain ⟨h1, h2⟩ := tyV_is I1 r1 ty
  refine ⟨T, id, pa, slot, hty, h1, h2, ?_⟩
  have hA := ha cpos pins s1 σ H1 _ I1 q1
  rw [hs] at hA ⊢
  refine Calls.callWith_builtin (by show (false || (backTo cpos (starEach es X.env)).any (·.1)) = false; rw [hplain] <;> rfl) (Calls.evalArgs_plain ?_)
  exact thn hA fun us s2 ⟨vs, H2, I2, r2, q2⟩ => hm pins s2 σ H2 x vs v us Q I2 r1 r2 q2
/- xs.append(e), list.index on a module's tuple .. are MtR facts of 06m -/
end
end L2

namespace L2
open PySem PySem.Spec PyProof.Rows

def MtM (X : Cx) (id : String) (r : V → List V → Hp → VK → Prop) : Prop :=
  ∀ (pins : List (Addr × Obj)) (s : Shared) (σ : St) (H : Hp) (x : V) (xs : List V) (v : Value) (us : List Value) (Q : VK), Inv X pins σ H s → RelV x v → Vals xs us → r x xs H Q →
    wpAny (model X.prog X.w) X.A (call (.builtin id) (v :: us)) (EP X pins σ Q) X.xe s

/-! ### lists of values -/
theorem Vals.one : ∀ {x : V} {us : List Value}, Vals [x] us → ∃ u, us = [u] ∧ RelV x u
  | _, _, .cons r .nil => ⟨_, rfl, r⟩
theorem Vals.two : ∀ {x y : V} {us : List Value}, Vals [x, y] us → ∃ u v, us = [u, v] ∧ RelV x u ∧ RelV y v
  | _, _, _, .cons r (.cons q .nil) => ⟨_, _, rfl, r, q⟩
theorem Vals.zero : ∀ {us : List Value}, Vals [] us → us = []
  | _, .nil => rfl
theorem Vals.dropLast {xs : List V} {us : List Value} (h : Vals xs us) : Vals xs.dropLast us.dropLast := by
  induction h with
  | nil => exact .nil
  | cons r t ih =>
    cases t with
    | nil => exact .nil
    | cons q t' => exact .cons r ih
theorem Vals.eraseIdx : ∀ {xs : List V} {us : List Value} (i : Nat), Vals xs us → Vals (xs.eraseIdx i) (us.eraseIdx i)
  | _, _, _, .nil => .nil
  | _, _, 0, .cons _ t => t
  | _, _, i + 1, .cons r t => .cons r (Vals.eraseIdx i t)
theorem Vals.reverse {xs : List V} {us : List Value} (h : Vals xs us) : Vals xs.reverse us.reverse := by
  induction h with
  | nil => exact .nil
  | cons r t ih => rw [List.reverse_cons, List.reverse_cons]; exact Vals.append ih (.cons r .nil)
theorem Vals.rep {xs : List V} {us : List Value} (h : Vals xs us) : ∀ k : Nat, Vals (List.replicate k xs).flatten (List.replicate k us).flatten
  | 0 => .nil
  | k + 1 => by
    rw [List.replicate_succ, List.replicate_succ, List.flatten_cons, List.flatten_cons]
    exact Vals.append h (Vals.rep h k)
theorem erase_last {α : Type} (l : List α) : l.eraseIdx (l.length - 1) = l.dropLast := by
  induction l with
  | nil => rfl
  | cons a r ih =>
    cases r with
    | nil => rfl
    | cons b r =>
      have e : (a :: b :: r).length - 1 = ((b :: r).length - 1) + 1 := by
        have h1 : (a :: b :: r).length = r.length + 2 := rfl
        have h2 : (b :: r).length = r.length + 1 := rfl
        omega
      rw [e, List.eraseIdx_cons_succ, ih]
      all_goals rfl
theorem len_erase {α : Type} : ∀ (l : List α) (i : Nat), (l.eraseIdx i).length ≤ l.length
  | [], _ => Nat.le_refl _
  | _ :: _, 0 => Nat.le_succ _
  | _ :: r, i + 1 => Nat.succ_le_succ (len_erase r i)
theorem foldl_rep (its : List Value) : ∀ (k : Nat) (acc : List Value),
    List.foldl (fun x1 x2 => x1 ++ x2) acc.toArray (List.replicate k its.toArray) = (acc ++ (List.replicate k its).flatten).toArray
  | 0, acc => by simp
  | k + 1, acc => by
    have e : acc.toArray ++ its.toArray = (acc ++ its).toArray := by simp
    have e2 : (acc ++ its) ++ (List.replicate k its).flatten = acc ++ (List.replicate (k + 1) its).flatten := by
      rw [List.replicate_succ, List.flatten_cons, List.append_assoc]
    rw [← e2, ← foldl_rep its k (acc ++ its), ← e, List.replicate_succ, List.foldl_cons]

section
variable {X : Cx} {pins : List (Addr × Obj)} {σ : St} {H : Hp} {s : Shared} {l b : Addr} {xs ys zs : List V}

/-! ### the two steps: a tracked list is rewritten, a new list is laid -/
theorem Inv.lset {its its' : List Value} {n : Nat} {f : Array Value → Array Value} {t' : Nat} (I : Inv X pins σ H s) (hH : H l = some (.lst xs))
    (e : s.heap.get? l = some { cls := .type "list", data := .seq its.toArray n }) (hf : f its.toArray = its'.toArray) (hv : Vals ys its') (hz : ys.length ≤ sizeLine) :
    Inv X pins σ (upd H l (.lst ys)) { s with heap := s.heap.update l (Obj.mapSeq f), toks := t' } := by
  have q := PySem.IsL.update e f
  rw [hf] at q
  refine I.write (x := l) (e := l) (by rw [hH]; exact trivial) (.inl rfl) (fun b' u hb hu => (Heap.get?_update_other s.heap (Obj.mapSeq f) (Ne.symm hb)).trans hu) ⟨_, q⟩ ?_
  exact ⟨hz, its', _, hv, q⟩
theorem Inv.lnew {its : List Value} {t' : Nat} (I : Inv X pins σ H s) (hv : Vals ys its) (hz : ys.length ≤ sizeLine) :
    Inv X pins σ (upd H s.heap.objs.size (.lst ys)) { s with heap := s.heap.push { cls := .type "list", data := .seq its.toArray }, toks := t' } :=
  I.laid (fun _ _ q => Heap.get?_push_of_some _ q) (Nat.le_refl _) ⟨hz, its, 0, hv, Heap.get?_push_size _ rfl⟩
theorem Inv.fresh (I : Inv X pins σ H s) : H s.heap.objs.size = none := I.hok.fresh (Nat.le_refl _)
theorem Inv.lstM (I : Inv X pins σ H s) (hH : H l = some (.lst xs)) : xs.length ≤ sizeLine ∧ ∃ (its : List Value) (n : Nat), Vals xs its ∧ xs.length = its.length ∧ s.heap.get? l = some { cls := .type "list", data := .seq its.toArray n } := by
  obtain ⟨z, its, n, r, e⟩ := I.hok l _ hH
  exact ⟨z, its, n, r, r.length, e⟩

theorem notLongL {n : Nat} (h : n ≤ sizeLine) : Builtin.List.listTooLong n = false := by
  unfold Builtin.List.listTooLong
  exact decide_eq_false (by omega)
end

section
variable {X : Cx}

/-! ### methods -/
def rAppend : V → List V → Hp → VK → Prop := fun x vs H Q => ∃ l xs y, x = .ref l ∧ vs = [y] ∧ H l = some (.lst xs) ∧ xs.length < sizeLine ∧ Q .non (upd H l (.lst (xs ++ [y])))
theorem mt_append : MtM X "list.append" rAppend := by
  intro pins s σ H x vs v us Q I rx rv h
  obtain ⟨l, xs, y, rfl, rfl, hH, hz, q⟩ := h
  cases rx
  obtain ⟨u, rfl, ru⟩ := rv.one
  obtain ⟨z, its, n, r, hl, e⟩ := I.lstM hH
  refine call_meets F.slot_list_append ⟨_, e, rfl⟩ F.entry_list_append (F.args_list_append_2 _ _) (PySem.list_append l its.toArray n u (by rw [List.size_toArray]; omega)) ⟨e, ?_⟩
  refine ⟨.non, _, I.lset (its' := its ++ [u]) hH e (by simp) (r.append (.cons ru .nil)) ?_, rfl, q⟩
  rw [List.length_append, List.length_singleton]
  omega

def rExtend : V → List V → Hp → VK → Prop := fun x vs H Q => ∃ l b xs zs, x = .ref l ∧ vs = [.ref b] ∧ H l = some (.lst xs) ∧ H b = some (.lst zs) ∧ xs.length + zs.length ≤ sizeLine ∧ Q .non (upd H l (.lst (xs ++ zs)))
theorem mt_extend : MtM X "list.extend" rExtend := by
  intro pins s σ H x vs v us Q I rx rv h
  obtain ⟨l, b, xs, zs, rfl, rfl, hH, hB, hz, q⟩ := h
  cases rx
  obtain ⟨u, rfl, ru⟩ := rv.one
  cases ru
  obtain ⟨z, its, n, r, hl, e⟩ := I.lstM hH
  obtain ⟨z2, its2, n2, r2, hl2, e2⟩ := I.lstM hB
  have hsz : its.toArray.size + its2.toArray.size ≤ sizeLine := by rw [List.size_toArray, List.size_toArray]; omega
  have hlong : ¬ (!its.toArray.isEmpty && Builtin.List.listTooLong (its.toArray.size + its2.toArray.size)) = true := by
    rw [notLongL hsz, Bool.and_false]
    exact Bool.false_ne_true
  refine call_meets F.slot_list_extend ⟨_, e, rfl⟩ F.entry_list_extend (F.args_list_extend_2 _ _)
    (AutoSeq1.list_extend_list_list_0 l its.toArray n b its2.toArray n2 hlong (by rw [List.size_toArray]; omega) (by omega)) ⟨e, e2, ?_⟩
  refine ⟨.non, _, I.lset (its' := its ++ its2) hH e (by simp) (r.append r2) ?_, rfl, q⟩
  rw [List.length_append]
  omega

def rPop : V → List V → Hp → VK → Prop := fun x vs H Q => ∃ l xs y, x = .ref l ∧ vs = [] ∧ H l = some (.lst xs) ∧ xs[xs.length - 1]? = some y ∧ Q y (upd H l (.lst xs.dropLast))
theorem mt_pop : MtM X "list.pop" rPop := by
  intro pins s σ H x vs v us Q I rx rv h
  obtain ⟨l, xs, y, rfl, rfl, hH, hy, q⟩ := h
  cases rx
  have hus := rv.zero
  subst hus
  obtain ⟨z, its, n, r, hl, e⟩ := I.lstM hH
  obtain ⟨u, hu, ru⟩ := r.get hy
  have hy' : its.toArray[its.toArray.size - 1]? = some u := by
    show its.toArray[its.length - 1]? = some u
    rw [← Array.getElem?_toList, ← hl]
    exact hu
  refine call_meets F.slot_list_pop ⟨_, e, rfl⟩ F.entry_list_pop (F.args_list_pop_1 _) (MeetsSeq.list_pop_last l its.toArray n u hy' (by rw [List.size_toArray]; omega)) ⟨e, ?_⟩
  refine ⟨y, _, I.lset (its' := its.dropLast) hH e ?_ r.dropLast ?_, ru, q⟩
  · show its.toArray.eraseIdxIfInBounds (its.toArray.size - 1) = its.dropLast.toArray
    rw [List.size_toArray, List.eraseIdxIfInBounds_toArray, erase_last]
  · rw [List.length_dropLast]
    omega

def rPopAt : V → List V → Hp → VK → Prop := fun x vs H Q => ∃ l xs i k y, x = .ref l ∧ vs = [.int i] ∧ H l = some (.lst xs) ∧ -(2 ^ 63) ≤ i ∧ i < 2 ^ 63 ∧ seqIndex? i xs.length = some k ∧ xs[k]? = some y ∧ Q y (upd H l (.lst (xs.eraseIdx k)))
theorem mt_popAt : MtM X "list.pop" rPopAt := by
  intro pins s σ H x vs v us Q I rx rv h
  obtain ⟨l, xs, i, k, y, rfl, rfl, hH, h1, h2, hk, hy, q⟩ := h
  cases rx
  obtain ⟨u, rfl, ru⟩ := rv.one
  obtain ⟨t, rfl⟩ := ru
  obtain ⟨z, its, n, r, hl, e⟩ := I.lstM hH
  obtain ⟨w, hw, rw'⟩ := r.get hy
  refine call_meets F.slot_list_pop ⟨_, e, rfl⟩ F.entry_list_pop (F.args_list_pop_2 _ _)
    (MeetsSeq.list_pop_at l its.toArray n i t k w (fitsIndex_both h1 h2) (by rw [List.size_toArray, ← hl]; exact hk) (by rw [← Array.getElem?_toList]; exact hw) (by rw [List.size_toArray]; omega)) ⟨e, ?_⟩
  refine ⟨y, _, I.lset (its' := its.eraseIdx k) hH e ?_ (r.eraseIdx k) ?_, rw', q⟩
  · show its.toArray.eraseIdxIfInBounds k = (its.eraseIdx k).toArray
    rw [List.eraseIdxIfInBounds_toArray]
  · have := len_erase xs k
    omega

def rReverse : V → List V → Hp → VK → Prop := fun x vs H Q => ∃ l xs, x = .ref l ∧ vs = [] ∧ H l = some (.lst xs) ∧ Q .non (upd H l (.lst xs.reverse))
theorem mt_reverse : MtM X "list.reverse" rReverse := by
  intro pins s σ H x vs v us Q I rx rv h
  obtain ⟨l, xs, rfl, rfl, hH, q⟩ := h
  cases rx
  have hus := rv.zero
  subst hus
  obtain ⟨z, its, n, r, hl, e⟩ := I.lstM hH
  refine call_meets F.slot_list_reverse ⟨_, e, rfl⟩ F.entry_list_reverse (F.args_list_reverse_1 _) (AutoSeq1.list_reverse_list_0 l its.toArray n (by rw [List.size_toArray]; omega)) ⟨e, ?_⟩
  refine ⟨.non, _, I.lset (its' := its.reverse) hH e (by simp) r.reverse ?_, rfl, q⟩
  rw [List.length_reverse]
  omega

def rClear : V → List V → Hp → VK → Prop := fun x vs H Q => ∃ l xs, x = .ref l ∧ vs = [] ∧ H l = some (.lst xs) ∧ Q .non (upd H l (.lst []))
theorem mt_clear : MtM X "list.clear" rClear := by
  intro pins s σ H x vs v us Q I rx rv h
  obtain ⟨l, xs, rfl, rfl, hH, q⟩ := h
  cases rx
  have hus := rv.zero
  subst hus
  obtain ⟨z, its, n, r, hl, e⟩ := I.lstM hH
  refine call_meets F.slot_list_clear ⟨_, e, rfl⟩ F.entry_list_clear (F.args_list_clear_1 _) (AutoSeq1.list_clear_list_0 l its.toArray n (by rw [List.size_toArray]; omega)) ⟨e, ?_⟩
  exact ⟨.non, _, I.lset (its' := []) (ys := []) hH e rfl .nil (Nat.zero_le _), rfl, q⟩

/-! ### list + list, list += list, list * int -/
def rCat : R2 := fun x y H Q => ∃ l b xs zs, x = .ref l ∧ y = .ref b ∧ H l = some (.lst xs) ∧ H b = some (.lst zs) ∧ xs.length + zs.length ≤ sizeLine ∧ ∀ p, H p = none → Q (.ref p) (upd H p (.lst (xs ++ zs)))
theorem op_cat : OpR X (binaryOp .Add) rCat := by
  intro pins s σ H x y v u Q I rx ry h
  obtain ⟨l, b, xs, zs, rfl, rfl, hH, hB, hz, q⟩ := h
  cases rx
  cases ry
  obtain ⟨z, its, n, r, hl, e⟩ := I.lstM hH
  obtain ⟨z2, its2, n2, r2, hl2, e2⟩ := I.lstM hB
  refine PySem.P.add_list e e2 ?_ (by rw [List.size_toArray, List.size_toArray]; omega)
  have ea : its.toArray ++ its2.toArray = (its ++ its2).toArray := by simp
  rw [ea]
  exact ⟨.ref _, _, I.lnew (t' := s.toks) (r.append r2) (by rw [List.length_append]; omega), rfl, q _ I.fresh⟩
/-- a list times an int (a negative one is nothing) -/
def rRep : R2 := fun x y H Q => ∃ l k xs, x = .ref l ∧ y = .int k ∧ H l = some (.lst xs) ∧ -(2 ^ 63) ≤ k ∧ k < 2 ^ 63 ∧ xs.length * k.toNat ≤ sizeLine ∧
  ∀ p, H p = none → Q (.ref p) (upd H p (.lst (List.replicate k.toNat xs).flatten))
theorem len_rep {α : Type} (xs : List α) (k : Nat) : (List.replicate k xs).flatten.length = k * xs.length := by
  induction k with
  | zero => simp
  | succ k ih => rw [List.replicate_succ, List.flatten_cons, List.length_append, ih, Nat.succ_mul, Nat.add_comm]
theorem op_rep : OpR X (binaryOp .Mult) rRep := by
  intro pins s σ H x y v u Q I rx ry h
  obtain ⟨l, k, xs, rfl, rfl, hH, h1, h2, hz, q⟩ := h
  cases rx
  obtain ⟨t, rfl⟩ := ry
  obtain ⟨z, its, n, r, hl, e⟩ := I.lstM hH
  have hlen : its.toArray.size * k.toNat ≤ sizeLine := by rw [List.size_toArray, ← hl]; exact hz
  have hcap : ¬ its.toArray.size * k.toNat > (2 ^ 63 - 1) / 8 := by
    have : (sizeLine : Nat) ≤ (2 ^ 63 - 1) / 8 := by decide
    omega
  have hfit : ¬ (!Builtin.List.listFitsIndex k) = true := by
    rw [fitsIndex_both h1 h2]
    exact Bool.false_ne_true
  have hlong : ¬ Builtin.List.listTooLong (its.toArray.size * k.toNat) = true := by
    rw [notLongL hlen]
    exact Bool.false_ne_true
  have hnew : List.foldl (fun x1 x2 => x1 ++ x2) #[] (List.replicate (if its.toArray.isEmpty = true then 0 else k.toNat) its.toArray) = (List.replicate k.toNat its).flatten.toArray := by
    have f0 : ∀ m : Nat, List.foldl (fun x1 x2 => x1 ++ x2) #[] (List.replicate m its.toArray) = (List.replicate m its).flatten.toArray := fun m => by
      have := foldl_rep its m []
      rw [List.nil_append] at this
      exact this
    rw [f0]
    cases its with
    | nil => simp
    | cons a r' => rw [if_neg (by simp)]
  refine wpAny_binaryOp_repeat_ref (T := "list") (U := "int") (by decide) ⟨_, e, rfl⟩ (fun s' => typeIs_int s' k t) noFill_list_mul F.fills_int_mul F.slot_int_rmul repeat_list F.slot_int_index.lookup
    (call_meets F.slot_int_rmul (typeIs_int s k t) F.entry_int_rmul (F.args_int_rmul_2 _ _) (int___rmul___int_list k t l its.toArray n)
      ⟨e, rfl, ⟨_, e, rfl⟩, call_meets F.slot_list_mul ⟨_, e, rfl⟩ F.entry_list_mul (F.args_list_mul_2 _ _) (AutoListH.list___mul___list_int_3 l its.toArray n k t hfit hcap hlong) ⟨e, ?_⟩⟩)
  rw [hnew]
  exact ⟨.ref _, _, I.lnew (t' := s.toks) (r.rep k.toNat) (by rw [len_rep, Nat.mul_comm]; exact hz), rfl, q _ I.fresh⟩

/-! ### del xs[i] -/
theorem del_list {pins : List (Addr × Obj)} {s : Shared} {σ : St} {H : Hp} {l : Addr} {xs : List V} {i : Int} {t : Tok} {k : Nat} {Q : Unit → Shared → Prop} (I : Inv X pins σ H s) (hH : H l = some (.lst xs))
    (h1 : -(2 ^ 63) ≤ i) (h2 : i < 2 ^ 63) (hk : seqIndex? i xs.length = some k) (h : ∀ s', Inv X pins σ (upd H l (.lst (xs.eraseIdx k))) s' → Q () s') :
    wpAny (model X.prog X.w) X.A (delItem (.ref l) (.int i t)) Q X.xe s := by
  obtain ⟨z, its, n, r, hl, e⟩ := I.lstM hH
  refine PySem.P.delItem_list (k := k) e (fitsIndex_both h1 h2) (by rw [List.size_toArray, ← hl]; exact hk) (h _ ?_) (by rw [List.size_toArray]; omega)
  refine I.lset (its' := its.eraseIdx k) (t' := s.toks) hH e ?_ (r.eraseIdx k) ?_
  · show its.toArray.eraseIdxIfInBounds k = (its.eraseIdx k).toArray
    rw [List.eraseIdxIfInBounds_toArray]
  · have := len_erase xs k
    omega
end

/-! ### xs[a:b] = ys -/
section
variable {prog : Program} {w : World} {A : Around} {E : Value → Shared → Prop} {s : Shared}
theorem splice_eq (its its2 : List Value) (a c : Nat) : its.toArray.extract 0 a ++ its2.toArray ++ its.toArray.extract c its.toArray.size = (its.take a ++ its2 ++ its.drop c).toArray := by
  apply Array.toList_inj.mp
  first
    | (simp
       exact List.take_of_length_le (by simp))
    | simp [List.take_of_length_le]
    | simp
theorem bounds_run {a c n : Nat} (hac : a ≤ c) (hc : c ≤ n) : sliceBounds (some (a : Int)) (some (c : Int)) none n = ((a : Int), (c : Int), 1) := by
  simp only [sliceBounds, Option.getD_none]
  have h1 : ¬ ((a : Int) < 0) := by omega
  have h2 : ¬ ((c : Int) < 0) := by omega
  simp only [h1, h2, if_false, show (1 : Int) > 0 by decide, if_true]
  congr 1
  · omega
  · congr 1; omega
set_option maxRecDepth 100000 in
/-- list.__setitem__ with a slice of step one and another list -/
theorem setItem_slice {l b sl : Addr} {items new : Array Value} {n n2 : Nat} {vl vu : Value} {a c : Nat} {Q : Unit → Shared → Prop}
    (e : s.heap.get? l = some { cls := .type "list", data := .seq items n }) (e2 : s.heap.get? b = some { cls := .type "list", data := .seq new n2 }) (hne : l ≠ b)
    (hs : s.heap.IsSliceOf sl vl vu .none) (pl : IsPart vl (some (a : Int))) (pu : IsPart vu (some (c : Int))) (hac : a ≤ c) (hc : c ≤ items.size)
    (hsz : items.size + new.size ≤ sizeLine) (h : Q () { s with heap := s.heap.update l (Obj.mapSeq fun xs => xs.extract 0 a ++ new ++ xs.extract c xs.size) }) :
    wpAny (model prog w) A (setItem (.ref l) (.ref sl) (.ref b)) Q E s := by
  have hl : s.heap.IsList l items := PySem.IsL.isList e
  have hb : s.heap.IsList b new := PySem.IsL.isList e2
  obtain ⟨os, hos, hcs, hds⟩ := id hs
  have hTs : s.TypeIs (.ref sl) "slice" := ⟨os, hos, hcs⟩
  have hstep : ¬ ((rawPart none == rawInt 0) = true) := Bool.false_ne_true
  have hsame : Builtin.List.listSameRef (.ref l) (.ref b) = false := by
    unfold Builtin.List.listSameRef
    exact beq_eq_false_iff_ne.mpr hne
  have hmax : (max (a : Int) (c : Int)).toNat = c := by omega
  have hz' : ((fun xs : Array Value => xs.extract 0 a ++ new ++ xs.extract c xs.size) items).size ≤ sizeLine + 1 := by
    simp only [Array.size_append, Array.size_extract]
    omega
  unfold setItem
  try with_reducible refine wpAny_holding ?_
  first | refine wpAny_bind (wpAny_pure ?_) | skip
  refine wpAny_bind (wpAny_sequenceKey hl.typeIs (by decide) ?_)
  refine wpAny_bind (wpAny_callSpecial?_slot (name := Str.ofString "__setitem__") hl.typeIs slot_list_setitem
    (wpAny_call_entry slot_list_setitem hl.typeIs entry_list_setitem ?_ (args_list_setitem _ _ _)))
  show wpAny _ _ (Builtin.List.listSubscript? (.ref sl) >>= _) _ _ s
  refine wpAny_bind ?_
  unfold Builtin.List.listSubscript?
  refine wpAny_bind (wpAny_specialOf hTs slice_no_index ?_)
  simp only [Option.isNone_none, if_true]
  refine wpAny_pure ?_
  show wpAny _ _ (typeOf (.ref sl) >>= _) _ _ s
  refine wpAny_bind (wpAny_typeOf hTs ?_)
  first
    | rw [if_neg (by decide)]
    | refine PySem.W.KFB.if_not (by decide) ?_
  rw [listSliceParts_eq]
  refine wpAny_bind (wpAny_bind (wpAny_field hos hds (x := .none) rfl (wpAny_bind (wpAny_listPart .none ?_))))
  rw [if_neg hstep]
  refine wpAny_bind (wpAny_field hos hds (x := vl) rfl (wpAny_bind (wpAny_listPart pl ?_)))
  refine wpAny_bind (wpAny_field hos hds (x := vu) rfl (wpAny_bind (wpAny_listPart pu (wpAny_pure ?_))))
  first
    | simp only [hsame, Bool.false_eq_true, if_false]
    | refine PySem.W.KFB.if_not hsame ?_
    | (dsimp only
       rw [if_neg (by rw [hsame]; exact Bool.false_ne_true)])
  refine wpAny_bind (m := Builtin.List.listAllItems (.ref b) "must assign iterable to extended slice") ?_
  unfold Builtin.List.listAllItems
  refine wpAny_bind (wpAny_typeOf hb.typeIs ?_)
  first
    | refine PySem.W.KFB.if_so (by decide) ?_
    | rw [if_pos (by decide)]
    | simp only [beq_self_eq_true, Bool.true_or, if_true]
  unfold Builtin.List.listItems
  refine wpAny_bind (wpAny_seqItems e2 rfl (wpAny_pure ?_))
  refine wpAny_bind (wpAny_bind (wpAny_seqItems e rfl (wpAny_pure ?_)))
  refine wpAny_bind (wpAny_of_eq ((sliceIndices_raw (some (a : Int)) (some (c : Int)) none items.size (by simp)).trans (congrArg (pure : Int × Int × Int → Sem (Int × Int × Int)) (bounds_run hac hc))) ?_)
  show wpAny _ _ (if ((1 : Int) == 1) = true then _ else _) _ _ s
  rw [if_pos (by decide)]
  refine wpAny_bind (wpAny_rule ?_)
  first
    | simp only [notLongL hsz, Bool.false_eq_true, if_false]
    | refine PySem.W.KFB.if_not (notLongL hsz) ?_
  first | refine wpAny_bind (wpAny_pure ?_) | skip
  show wpAny _ _ (updateSeq l (fun xs => xs.extract 0 ((a : Int)).toNat ++ new ++ xs.extract (max (a : Int) (c : Int)).toNat xs.size) >>= _) _ _ s
  rw [hmax, Int.toNat_natCast]
  refine wpAny_bind (wpAny_updateSeq (hz := Nat.le_trans (Nat.le_add_right _ _) hsz) (_hz' := hz') e rfl ?_)
  refine wpAny_bind (wpAny_letGo ?_)
  first
    | exact wpAny_bind (wpAny_pure (wpAny_pure ⟨.none, rfl, wpAny_pure h⟩))
    | exact wpAny_pure ⟨.none, rfl, wpAny_pure h⟩
end

section
variable {X : Cx}
/-- xs[a:c] = ys of another list, at the value level: sl is the slice object that was just made -/
theorem set_slice {pins : List (Addr × Obj)} {s : Shared} {σ : St} {H : Hp} {l b sl : Addr} {xs ys : List V} {a c : Int} {vl vu : Value} {Q : Unit → Shared → Prop} (I : Inv X pins σ H s)
    (hH : H l = some (.lst xs)) (hB : H b = some (.lst ys)) (hne : l ≠ b) (hs : s.heap.IsSliceOf sl vl vu .none) (ra : RelV (.int a) vl) (rc : RelV (.int c) vu) (h0 : 0 ≤ a) (hac : a ≤ c) (hc : c ≤ xs.length)
    (hz : xs.length + ys.length ≤ sizeLine) (h : ∀ s', Inv X pins σ (upd H l (.lst (xs.take a.toNat ++ ys ++ xs.drop c.toNat))) s' → Q () s') :
    wpAny (model X.prog X.w) X.A (setItem (.ref l) (.ref sl) (.ref b)) Q X.xe s := by
  obtain ⟨ta, rfl⟩ := ra
  obtain ⟨tc, rfl⟩ := rc
  obtain ⟨z, its, n, r, hl, e⟩ := I.lstM hH
  obtain ⟨z2, its2, n2, r2, hl2, e2⟩ := I.lstM hB
  obtain ⟨a', rfl⟩ := Int.eq_ofNat_of_zero_le h0
  obtain ⟨c', rfl⟩ := Int.eq_ofNat_of_zero_le (Int.le_trans h0 hac)
  simp only [Int.toNat_natCast] at h
  refine setItem_slice (a := a') (c := c') e e2 hne hs (.int _ _) (.int _ _) (by omega) (by rw [List.size_toArray]; omega) (by rw [List.size_toArray, List.size_toArray]; omega) (h _ ?_)
  refine I.lset (its' := its.take a' ++ its2 ++ its.drop c') (t' := s.toks) hH e ?_ (Vals.append (Vals.append (r.take _) r2) (r.drop _)) ?_
  · exact splice_eq its its2 a' c'
  · rw [List.length_append, List.length_append, List.length_take, List.length_drop]
    omega
end
end L2


namespace L2
open PySem PySem.Spec PyProof.Rows

/-! ### lists of pairs as tables -/
section
variable {κ : Type} [DecidableEq κ]
def valV (kvs : List (κ × V)) (k : κ) : Option V := (kvs.find? fun kv => decide (kv.1 = k)).map (·.2)
/-- in its place, or at the end -/
def putK (kvs : List (κ × V)) (k : κ) (v : V) : List (κ × V) :=
  if (kvs.any fun kv => decide (kv.1 = k)) = true then kvs.map (fun kv => if kv.1 = k then (kv.1, v) else kv) else kvs ++ [(k, v)]
def dropK (kvs : List (κ × V)) (k : κ) : List (κ × V) := kvs.filter fun kv => decide (kv.1 ≠ k)

theorem valV_nil {k : κ} : valV ([] : List (κ × V)) k = none := rfl
theorem valV_pos {p : κ × V} {r : List (κ × V)} {k : κ} (e : p.1 = k) : valV (p :: r) k = some p.2 := by simp [valV, List.find?_cons, e]
theorem valV_neg {p : κ × V} {r : List (κ × V)} {k : κ} (e : ¬ p.1 = k) : valV (p :: r) k = valV r k := by simp [valV, List.find?_cons, e]
theorem valV_any (k : κ) : ∀ kvs : List (κ × V), (kvs.any fun kv => decide (kv.1 = k)) = (valV kvs k).isSome
  | [] => rfl
  | p :: r => by
    rw [List.any_cons]
    by_cases e : p.1 = k
    · simp only [valV_pos e, decide_eq_true e, Bool.true_or, Option.isSome_some]
    · rw [valV_neg e, decide_eq_false e, Bool.false_or]; exact valV_any k r
theorem valV_map (k j : κ) (y : V) : ∀ kvs : List (κ × V), valV (kvs.map fun kv => if kv.1 = k then (kv.1, y) else kv) j = (valV kvs j).map fun x => if j = k then y else x
  | [] => rfl
  | p :: r => by
    have ih := valV_map k j y r
    rw [List.map_cons]
    by_cases h : p.1 = k
    · rw [if_pos h]
      by_cases e : p.1 = j
      · rw [valV_pos (p := (p.1, y)) e, valV_pos e, Option.map_some, if_pos (e.symm.trans h)]
      · rw [valV_neg (p := (p.1, y)) e, valV_neg e, ih]
    · rw [if_neg h]
      by_cases e : p.1 = j
      · rw [valV_pos (p := p) e, valV_pos e, Option.map_some, if_neg (fun z => h (e.trans z))]
      · rw [valV_neg (p := p) e, valV_neg e, ih]
theorem valV_snoc (k j : κ) (y : V) : ∀ kvs : List (κ × V), valV kvs k = none → valV (kvs ++ [(k, y)]) j = if j = k then some y else valV kvs j
  | [], _ => by
    by_cases e : k = j
    · rw [if_pos e.symm]; exact valV_pos (p := (k, y)) e
    · rw [if_neg (fun z => e z.symm)]; exact valV_neg (p := (k, y)) e
  | p :: r, hn => by
    rw [List.cons_append]
    have hk : ¬ p.1 = k := fun z => by rw [valV_pos z] at hn; cases hn
    rw [valV_neg hk] at hn
    have ih := valV_snoc k j y r hn
    by_cases e : p.1 = j
    · rw [valV_pos e, valV_pos e, if_neg (fun z => hk (e.trans z))]
    · rw [valV_neg e, valV_neg e, ih]
theorem valV_put (kvs : List (κ × V)) (k j : κ) (y : V) : valV (putK kvs k y) j = if j = k then some y else valV kvs j := by
  unfold putK
  by_cases a : (kvs.any fun kv => decide (kv.1 = k)) = true
  · rw [if_pos a, valV_map]
    rw [valV_any] at a
    by_cases e : j = k
    · obtain ⟨x, hx⟩ := Option.isSome_iff_exists.mp a
      rw [if_pos e, e, hx, Option.map_some, if_pos rfl]
    · rw [if_neg e]
      cases valV kvs j with
      | none => rfl
      | some x => rw [Option.map_some, if_neg e]
  · rw [if_neg a]
    refine valV_snoc k j y kvs ?_
    rw [valV_any] at a
    cases q : valV kvs k with
    | none => rfl
    | some x => rw [q] at a; exact (a rfl).elim
theorem length_putK (kvs : List (κ × V)) (k : κ) (v : V) : (putK kvs k v).length ≤ kvs.length + 1 := by
  unfold putK
  split
  · rw [List.length_map]; omega
  · rw [List.length_append, List.length_cons, List.length_nil]; omega
theorem putK_new {kvs : List (κ × V)} {k : κ} (v : V) (h : valV kvs k = none) : putK kvs k v = kvs ++ [(k, v)] := by
  unfold putK
  rw [valV_any, h]
  exact if_neg (by decide)

theorem RelO.isSome_eq {o : Option V} {u : Option Value} (r : RelO o u) : o.isSome = u.isSome := by
  cases o with
  | none => cases u with
    | none => rfl
    | some _ => exact (show False from r).elim
  | some _ => cases u with
    | none => exact (show False from r).elim
    | some _ => rfl
theorem RelO.getD {o : Option V} {u : Option Value} {d : V} {d' : Value} (r : RelO o u) (rd : RelV d d') : RelV (o.getD d) (u.getD d') := by
  cases o with
  | none => cases u with
    | none => exact rd
    | some _ => exact (show False from r).elim
  | some _ => cases u with
    | none => exact (show False from r).elim
    | some _ => exact r

/-- raw tables of the same keys -/
theorem KV.val {kvs : List (κ × V)} {vs : List (κ × Value)} (r : KV kvs vs) (k : κ) : RelO (valV kvs k) (valueAt vs k) := by
  unfold KV at r
  induction r with
  | nil => exact True.intro
  | @cons p q ps qs h t ih =>
    obtain ⟨h1, h2⟩ := h
    by_cases e : p.1 = k
    · have e' : q.1 = k := h1.symm.trans e
      have b : valueAt (q :: qs) k = some q.2 := by simp [valueAt, List.find?_cons, e']
      rw [valV_pos e, b]; exact h2
    · have e' : ¬ q.1 = k := fun z => e (h1.trans z)
      have b : valueAt (q :: qs) k = valueAt qs k := by simp [valueAt, List.find?_cons, e']
      rw [valV_neg e, b]; exact ih
theorem KV.any {kvs : List (κ × V)} {vs : List (κ × Value)} (r : KV kvs vs) (k : κ) : (kvs.any fun kv => decide (kv.1 = k)) = vs.any fun kv => decide (kv.1 = k) := by
  unfold KV at r
  induction r with
  | nil => rfl
  | cons h t ih => rw [List.any_cons, List.any_cons, ih, h.1]
theorem KV.repl {kvs : List (κ × V)} {vs : List (κ × Value)} (r : KV kvs vs) (k : κ) {y : V} {u : Value} (ry : RelV y u) :
    KV (kvs.map fun kv => if kv.1 = k then (kv.1, y) else kv) (vs.map fun kv => if kv.1 = k then (kv.1, u) else kv) := by
  unfold KV at r ⊢
  induction r with
  | nil => exact .nil
  | @cons p q ps qs h t ih =>
    rw [List.map_cons, List.map_cons]
    refine .cons ?_ ih
    obtain ⟨h1, h2⟩ := h
    by_cases e : p.1 = k
    · rw [if_pos e, if_pos (h1.symm.trans e)]; exact ⟨h1, ry⟩
    · rw [if_neg e, if_neg (fun z => e (h1.trans z))]; exact ⟨h1, h2⟩
theorem KV.put {kvs : List (κ × V)} {vs : List (κ × Value)} (r : KV kvs vs) (k : κ) {y : V} {u : Value} (ry : RelV y u) : KV (putK kvs k y) (stored vs k u) := by
  unfold putK stored
  rw [r.any k]
  by_cases e : (vs.any fun kv => decide (kv.1 = k)) = true
  · rw [if_pos e, if_pos e]; exact r.repl k ry
  · rw [if_neg e, if_neg e]; exact Paired.snoc r ⟨rfl, ry⟩
theorem KV.drop {kvs : List (κ × V)} {vs : List (κ × Value)} (r : KV kvs vs) (k : κ) : KV (dropK kvs k) (without vs k) := by
  unfold KV at r ⊢
  unfold dropK without
  induction r with
  | nil => exact .nil
  | @cons p q ps qs h t ih =>
    obtain ⟨h1, h2⟩ := h
    rw [List.filter_cons, List.filter_cons]
    by_cases e : p.1 = k
    · have a : ¬ decide (p.1 ≠ k) = true := by simp [e]
      have b : ¬ decide (q.1 ≠ k) = true := by simp [h1.symm.trans e]
      rw [if_neg a, if_neg b]; exact ih
    · have e' : ¬ q.1 = k := fun z => e (h1.trans z)
      have a : decide (p.1 ≠ k) = true := by simp [e]
      have b : decide (q.1 ≠ k) = true := by simp [e']
      rw [if_pos a, if_pos b]; exact .cons ⟨h1, h2⟩ ih
theorem KV.keys {kvs : List (κ × V)} {vs : List (κ × Value)} (r : KV kvs vs) : kvs.map (·.1) = vs.map (·.1) := by
  unfold KV at r
  induction r with
  | nil => rfl
  | cons h t ih => rw [List.map_cons, List.map_cons, ih, h.1]
theorem KV.length {kvs : List (κ × V)} {vs : List (κ × Value)} (r : KV kvs vs) : kvs.length = vs.length := Paired.length r
theorem dropK_le (kvs : List (κ × V)) (k : κ) : (dropK kvs k).length ≤ kvs.length := List.length_filter_le _ _
end


/-! ### a tracked dict, its keys ints and texts or tuples of these -/
theorem kV_is {P : Program} {w : World} {k : Key} {u : Value} (r : RelV (kV k) u) : (mixKind P w).is k u = true := by
  cases k with
  | inl i => obtain ⟨t, e⟩ := (show ∃ t, u = Value.int i t from r); subst e; exact mixKind_int P w i t
  | inr x => obtain ⟨t, e⟩ := (show ∃ t, u = Value.str x t from r); subst e; exact mixKind_str P w x t
theorem kV_inj {a b : Key} (e : kV a = kV b) : a = b := by
  cases a with
  | inl i => cases b with
    | inl j => have e' : V.int i = V.int j := e; injection e' with e'; rw [e']
    | inr y => exact nomatch (show V.int i = V.str y from e)
  | inr x => cases b with
    | inl j => exact nomatch (show V.str x = V.int j from e)
    | inr y => have e' : V.str x = V.str y := e; injection e' with e'; rw [e']
theorem kVs_inj : ∀ {a b : List Key}, a.map kV = b.map kV → a = b
  | [], [], _ => rfl
  | [], _ :: _, e => by simp at e
  | _ :: _, [], e => by simp at e
  | x :: xs, y :: ys, e => by
    rw [List.map_cons, List.map_cons] at e
    injection e with e1 e2
    rw [kV_inj e1, kVs_inj e2]
theorem items_are {P : Program} {w : World} : ∀ {ks : List Key} {us : List Value}, Vals (ks.map kV) us → ItemsAre (mixKind P w) ks us
  | [], _, r => by rw [List.map_nil] at r; cases r; exact .nil
  | k :: ks, _, r => by
    rw [List.map_cons] at r
    cases r with
    | cons h t => exact .cons (kV_is h) (items_are t)

/-- raw entries of a dict with tuple keys -/
abbrev KT (H : Hp) : List (List Key × V) → List (List Key × Addr × Value) → Prop := Paired fun p q => p.1 = q.1 ∧ H q.2.1 = some (.tup (p.1.map kV)) ∧ RelV p.2 q.2.2
theorem KT.val {H : Hp} {kvs : List (List Key × V)} {xs : List (List Key × Addr × Value)} (r : KT H kvs xs) (k : List Key) : RelO (valV kvs k) ((atKey xs k).map (·.2)) := by
  induction r with
  | nil => exact True.intro
  | @cons p q ps qs h t ih =>
    obtain ⟨h1, _, h2⟩ := h
    by_cases e : p.1 = k
    · have e' : q.1 = k := h1.symm.trans e
      have b : atKey (q :: qs) k = some q.2 := by simp [atKey, List.find?_cons, e']
      rw [valV_pos e, b]; exact h2
    · have e' : ¬ q.1 = k := fun z => e (h1.trans z)
      have b : atKey (q :: qs) k = atKey qs k := by simp [atKey, List.find?_cons, e']
      rw [valV_neg e, b]; exact ih
theorem KT.repl {H : Hp} {kvs : List (List Key × V)} {xs : List (List Key × Addr × Value)} (r : KT H kvs xs) (k : List Key) {y : V} {u : Value} (ry : RelV y u) :
    KT H (kvs.map fun kv => if kv.1 = k then (kv.1, y) else kv) (xs.map (putAt k u)) := by
  induction r with
  | nil => exact .nil
  | @cons p q ps qs h t ih =>
    rw [List.map_cons, List.map_cons]
    refine .cons ?_ ih
    obtain ⟨h1, h2, h3⟩ := h
    unfold putAt
    by_cases e : p.1 = k
    · rw [if_pos e, if_pos (h1.symm.trans e)]; exact ⟨h1, h2, ry⟩
    · rw [if_neg e, if_neg (fun z => e (h1.trans z))]; exact ⟨h1, h2, h3⟩
theorem KT.put {H : Hp} {kvs : List (List Key × V)} {xs : List (List Key × Addr × Value)} (r : KT H kvs xs) (k : List Key) {b : Addr} {y : V} {u : Value} (hb : H b = some (.tup (k.map kV))) (ry : RelV y u) :
    KT H (putK kvs k y) (storedH xs k b u) := by
  have e : (kvs.any fun kv => decide (kv.1 = k)) = (atKey xs k).isSome := by
    rw [valV_any, (r.val k).isSome_eq, Option.isSome_map]
  unfold putK storedH
  rw [e]
  by_cases q : (atKey xs k).isSome = true
  · rw [if_pos q, if_pos q]; exact r.repl k ry
  · rw [if_neg q, if_neg q]; exact Paired.snoc r ⟨rfl, hb, ry⟩
theorem KT.keeps {H H' : Hp} {kvs : List (List Key × V)} {xs : List (List Key × Addr × Value)} (r : KT H kvs xs) (ht : ∀ b ys, H b = some (.tup ys) → H' b = some (.tup ys)) : KT H' kvs xs :=
  Paired.mapP r fun _ _ z => ⟨z.1, ht _ _ z.2.1, z.2.2⟩

section
variable {P : Program} {w : World} {H : Hp} {h : Heap} {a : Addr}
theorem rd_of {u : HO} (ok : HOk P w H h) (e : Rd H a u) : ObjOk P w H h a u := e.ok ok
theorem dk_rd {kvs : List (Key × V)} (ok : HOk P w H h) (e : Rd H a (.dK kvs)) : kvs.length ≤ sizeLine ∧ (a == sysModules) = false ∧ ∃ vs, KV kvs vs ∧ h.DictOf (mixKind P w) a vs :=
  show ObjOk P w H h a (.dK kvs) from rd_of ok e
theorem dk_of {kvs : List (Key × V)} (ok : HOk P w H h) (e : H a = some (.dK kvs)) : kvs.length ≤ sizeLine ∧ (a == sysModules) = false ∧ ∃ vs, KV kvs vs ∧ h.DictOf (mixKind P w) a vs := dk_rd ok (.inl e)
/-- a tracked tuple of ints and texts is a key -/
theorem key_of {ks : List Key} (ok : HOk P w H h) (e : H a = some (.tup (ks.map kV))) : (tupleKind (mixKind P w)).is h ks a := by
  obtain ⟨_, its, r, o, h1, h2, n, h3⟩ := (show ObjOk P w H h a (.tup (ks.map kV)) from ok a _ e)
  exact ⟨o, its.toArray, n, h1, h2, h3, by simpa using items_are r⟩
theorem dt_rd {kvs : List (List Key × V)} (ok : HOk P w H h) (e : Rd H a (.dT kvs)) : kvs.length ≤ sizeLine ∧ (a == sysModules) = false ∧
    ∃ xs, KT H kvs xs ∧ h.DictOfH (tupleKind (mixKind P w)) a xs := by
  obtain ⟨z, y, xs, r, o, es, ep, h1, h2, h3, h4, h5⟩ := (show ObjOk P w H h a (.dT kvs) from rd_of ok e)
  refine ⟨z, y, xs, r, o, es, ep, h1, h2, h3, h4, fun x hx => ?_, h5⟩
  have all : ∀ {l : List (List Key × V)} {m : List (List Key × Addr × Value)}, KT H l m → ∀ x ∈ m, (tupleKind (mixKind P w)).is h x.1 x.2.1 := by
    intro l m q
    induction q with
    | nil => intro x hx; exact nomatch hx
    | @cons p q ps qs hq t ih =>
      intro x hx
      rcases List.mem_cons.mp hx with e | hx
      · subst e
        exact key_of ok (by rw [← hq.1]; exact hq.2.1)
      · exact ih x hx
  exact all r x hx
theorem dt_of {kvs : List (List Key × V)} (ok : HOk P w H h) (e : H a = some (.dT kvs)) : kvs.length ≤ sizeLine ∧ (a == sysModules) = false ∧
    ∃ xs, KT H kvs xs ∧ h.DictOfH (tupleKind (mixKind P w)) a xs := dt_rd ok (.inl e)
end

/-- what the dict at a holds at the key y -/
def DGet (H : Hp) (a : Addr) (y : V) (r : Option V) : Prop :=
  (∃ kvs k, Rd H a (.dK kvs) ∧ y = kV k ∧ r = valV kvs k) ∨ ∃ kvs k b, Rd H a (.dT kvs) ∧ y = .ref b ∧ H b = some (.tup (k.map kV)) ∧ r = valV kvs k
/-- the heap behind a[y] = v -/
def DPut (H : Hp) (a : Addr) (y v : V) (H' : Hp) : Prop :=
  (∃ kvs k, H a = some (.dK kvs) ∧ y = kV k ∧ kvs.length < sizeLine ∧ H' = upd H a (.dK (putK kvs k v))) ∨
  ∃ kvs k b, H a = some (.dT kvs) ∧ y = .ref b ∧ H b = some (.tup (k.map kV)) ∧ kvs.length < sizeLine ∧ H' = upd H a (.dT (putK kvs k v))
theorem DGet.k {H : Hp} {a : Addr} {kvs : List (Key × V)} {k : Key} (e : H a = some (.dK kvs)) : DGet H a (kV k) (valV kvs k) := .inl ⟨kvs, k, .inl e, rfl, rfl⟩
theorem DGet.t {H : Hp} {a b : Addr} {kvs : List (List Key × V)} {k : List Key} (e : H a = some (.dT kvs)) (eb : H b = some (.tup (k.map kV))) : DGet H a (.ref b) (valV kvs k) := .inr ⟨kvs, k, b, .inl e, rfl, eb, rfl⟩
theorem DPut.k {H : Hp} {a : Addr} {kvs : List (Key × V)} {k : Key} {v : V} (e : H a = some (.dK kvs)) (hl : kvs.length < sizeLine) : DPut H a (kV k) v (upd H a (.dK (putK kvs k v))) := .inl ⟨kvs, k, e, rfl, hl, rfl⟩
theorem DPut.t {H : Hp} {a b : Addr} {kvs : List (List Key × V)} {k : List Key} {v : V} (e : H a = some (.dT kvs)) (eb : H b = some (.tup (k.map kV))) (hl : kvs.length < sizeLine) :
    DPut H a (.ref b) v (upd H a (.dT (putK kvs k v))) := .inr ⟨kvs, k, b, e, rfl, eb, hl, rfl⟩


section
variable {X : Cx} {pins : List (Addr × Obj)} {σ : St} {H : Hp} {s : Shared} {a : Addr} {y v : V} {u r : Value} {o : Option V} {A : Around} {E : Value → Shared → Prop}

theorem Inv.big (I : Inv X pins σ H s) : sysModules < s.heap.objs.size := by
  have h : mainGlobals < s.heap.objs.size := (I.mod.glob.keeps I.bk).lt
  exact Nat.lt_trans (by decide) h

/-- d[y], there -/
theorem d_getItem {Q : Value → Shared → Prop} (hu : A.units + 1 < cLine) (I : Inv X pins σ H s) (g : DGet H a y (some v)) (ry : RelV y u) (h : ∀ w' s', Inv X pins σ H s' → RelV v w' → Q w' s') :
    wpAny (model X.prog X.w) A (getItem (.ref a) u) Q E s := by
  rcases g with ⟨kvs, k, e, ey, l⟩ | ⟨kvs, k, b, e, ey, eb, l⟩
  · subst ey
    obtain ⟨z, hd, vs, rel, dd⟩ := dk_rd I.hok e
    obtain ⟨w', hw, rw'⟩ := RelO.some_of (v := v) (o := valueAt vs k) (by rw [l]; exact rel.val k)
    exact wpAny_getItem_of (kV_is ry) dd.mapOf hw (h w' _ (I.tok _) rw')
  · subst ey
    cases (show u = Value.ref b from ry)
    obtain ⟨z, hd, xs, rel, dd⟩ := dt_rd I.hok e
    obtain ⟨w', hw, rw'⟩ := RelO.some_of (v := v) (o := (atKey xs k).map (·.2)) (by rw [l]; exact rel.val k)
    obtain ⟨p, hp, hp2⟩ := Option.map_eq_some_iff.mp hw
    refine wpAny_getItem_heap (tupleKind_room_in1 hu) (key_of I.hok eb) dd hp ?_
    rw [hp2]
    exact h w' _ (I.tok _) rw'
/-- y in d -/
theorem d_in {Q : Value → Shared → Prop} (hu : A.units + 1 < cLine) (I : Inv X pins σ H s) (g : DGet H a y o) (ry : RelV y u) (h : ∀ s', Inv X pins σ H s' → Q (.bool o.isSome) s') :
    wpAny (model X.prog X.w) A (compareOp .In u (.ref a)) Q E s := by
  rcases g with ⟨kvs, k, e, ey, l⟩ | ⟨kvs, k, b, e, ey, eb, l⟩
  · subst ey
    obtain ⟨z, hd, vs, rel, dd⟩ := dk_rd I.hok e
    refine wpAny_in_of (kV_is ry) hd dd.mapOf ?_
    rw [← (rel.val k).isSome_eq, ← l]
    exact h _ (I.tok _)
  · subst ey
    cases (show u = Value.ref b from ry)
    obtain ⟨z, hd, xs, rel, dd⟩ := dt_rd I.hok e
    refine wpAny_in_heap (tupleKind_room_in1 hu) (key_of I.hok eb) hd dd ?_
    have q := (rel.val k).isSome_eq
    rw [Option.isSome_map] at q
    rw [← q, ← l]
    exact h _ (I.tok _)
theorem d_notIn {Q : Value → Shared → Prop} (hu : A.units + 1 < cLine) (I : Inv X pins σ H s) (g : DGet H a y o) (ry : RelV y u) (h : ∀ s', Inv X pins σ H s' → Q (.bool (!o.isSome)) s') :
    wpAny (model X.prog X.w) A (compareOp .NotIn u (.ref a)) Q E s := by
  rcases g with ⟨kvs, k, e, ey, l⟩ | ⟨kvs, k, b, e, ey, eb, l⟩
  · subst ey
    obtain ⟨z, hd, vs, rel, dd⟩ := dk_rd I.hok e
    refine wpAny_notIn_of (kV_is ry) hd dd.mapOf ?_
    rw [← (rel.val k).isSome_eq, ← l]
    exact h _ (I.tok _)
  · subst ey
    cases (show u = Value.ref b from ry)
    obtain ⟨z, hd, xs, rel, dd⟩ := dt_rd I.hok e
    refine wpAny_notIn_heap (tupleKind_room_in1 hu) (key_of I.hok eb) hd dd ?_
    have q := (rel.val k).isSome_eq
    rw [Option.isSome_map] at q
    rw [← q, ← l]
    exact h _ (I.tok _)
/-- a dict's object is replaced -/
theorem d_write {h' : Heap} {t' : Nat} {ob : HO} (I : Inv X pins σ H s) (mu : Mut (H a)) (hs : Heap.SameBut a s.heap h') (he : ∃ q, h'.get? a = some q) (new : ObjOk X.prog X.w (upd H a ob) h' a ob) :
    Inv X pins σ (upd H a ob) { s with heap := h', toks := t' } :=
  I.write (x := a) (e := a) mu (.inl rfl) (fun b q hb z => (hs.2 b hb).trans z) he new
theorem dk_new {P : Program} {w : World} {H' : Hp} {h' : Heap} {kvs : List (Key × V)} {vs : List (Key × Value)} (z : kvs.length ≤ sizeLine) (hd : (a == sysModules) = false) (rel : KV kvs vs) (dd : h'.DictOf (mixKind P w) a vs) :
    ObjOk P w H' h' a (.dK kvs) := ⟨z, hd, vs, rel, dd⟩
/-- d[y] = v -/
theorem d_setItem {H' : Hp} {Q : Unit → Shared → Prop} (hu : A.units + 1 < cLine) (I : Inv X pins σ H s) (g : DPut H a y v H') (ry : RelV y u) (rv : RelV v r) (h : ∀ s', Inv X pins σ H' s' → Q () s') :
    wpAny (model X.prog X.w) A (setItem (.ref a) u r) Q E s := by
  rcases g with ⟨kvs, k, e, ey, l, eH⟩ | ⟨kvs, k, b, e, ey, eb, l, eH⟩
  · subst ey eH
    obtain ⟨z, hd, vs, rel, dd⟩ := dk_of I.hok e
    have hz : vs.length ≤ sizeLine := by rw [← rel.length]; exact z
    have hl : (putK kvs k v).length ≤ sizeLine := by have := length_putK kvs k v; omega
    refine wpAny_setItem_pairs (hsz := hz) (kV_is ry) dd fun h' dd' hs => h _ ?_
    have he : ∃ q, h'.get? a = some q := let ⟨q, _, _, hq, _⟩ := dd'; ⟨q, hq⟩
    exact d_write I (by rw [e]; exact True.intro) hs he (dk_new hl hd (rel.put k rv) dd')
  · subst ey eH
    cases (show u = Value.ref b from ry)
    obtain ⟨z, hd, xs, rel, dd⟩ := dt_of I.hok e
    have hz : xs.length ≤ sizeLine := by rw [← Paired.length rel]; exact z
    have hl : (putK kvs k v).length ≤ sizeLine := by have := length_putK kvs k v; omega
    refine wpAny_setItem_heap (hsz := hz) (tupleKind_room_in1 hu) (key_of I.hok eb) dd fun h' dd' hs => h _ ?_
    obtain ⟨q, es, ep, hq, h2, h3, h4, _, h5⟩ := dd'
    refine d_write I (by rw [e]; exact True.intro) hs ⟨q, hq⟩ ⟨hl, hd, _, (rel.put k eb rv).keeps fun c ys ec => ?_, q, es, ep, hq, h2, h3, h4, h5⟩
    rw [upd_ne (ne_of ec e (fun z => nomatch z))]
    exact ec
end

section
variable {X : Cx} {pins : List (Addr × Obj)} {σ : St} {H : Hp} {s : Shared} {a : Addr} {kvs : List (Key × V)} {k : Key} {u : Value} {A : Around} {E : Value → Shared → Prop}
/-- del d[k] -/
theorem d_delItem {Q : Unit → Shared → Prop} (I : Inv X pins σ H s) (e : H a = some (.dK kvs)) (ry : RelV (kV k) u) (l : (valV kvs k).isSome = true) (h : ∀ s', Inv X pins σ (upd H a (.dK (dropK kvs k))) s' → Q () s') :
    wpAny (model X.prog X.w) A (delItem (.ref a) u) Q E s := by
  obtain ⟨z, hd, vs, rel, dd⟩ := dk_of I.hok e
  refine wpAny_delItem_slot dd.typeIs (by decide) PySem.F.slot_dict_delitem
    (call_meetsIn PySem.F.slot_dict_delitem dd.typeIs PySem.F.entry_dict_delitem (PySem.F.args_dict_delitem_2 _ _) (meets_dict_delitem_pairs (mixKind X.prog X.w) a (kV_is ry)) ⟨vs, dd, by rw [← rel.length]; exact z, by rw [← (rel.val k).isSome_eq]; exact l, fun h' dd' hs => h _ ?_⟩)
  have he : ∃ q, h'.get? a = some q := let ⟨q, _, _, hq, _⟩ := dd'; ⟨q, hq⟩
  exact d_write I (by rw [e]; exact True.intro) hs he (dk_new (Nat.le_trans (dropK_le kvs k) z) hd (rel.drop k) dd')
/-- d.pop(k[, x]), there -/
theorem d_pop {v : V} {more : List Value} {Q : Value → Shared → Prop} (I : Inv X pins σ H s) (e : H a = some (.dK kvs)) (ry : RelV (kV k) u) (l : valV kvs k = some v) (hm : more = [] ∨ ∃ x, more = [x])
    (h : ∀ w' s', Inv X pins σ (upd H a (.dK (dropK kvs k))) s' → RelV v w' → Q w' s') : wpAny (model X.prog X.w) A (call (.builtin "dict.pop") (.ref a :: u :: more)) Q E s := by
  obtain ⟨z, hd, vs, rel, dd⟩ := dk_of I.hok e
  obtain ⟨w', hw, rw'⟩ := RelO.some_of (v := v) (o := valueAt vs k) (by rw [← l]; exact rel.val k)
  have hp : (keyPart u).isSome = true := by
    cases k with
    | inl i => obtain ⟨t, q⟩ := (show ∃ t, u = Value.int i t from ry); subst q; rfl
    | inr x => obtain ⟨t, q⟩ := (show ∃ t, u = Value.str x t from ry); subst q; rfl
  have ha : argsOk "dict.pop" ⟨.ref a :: u :: more, []⟩ := by
    rcases hm with q | ⟨x, q⟩
    · subst q; exact PySem.F.args_dict_pop_2 _ _
    · subst q; exact PySem.F.args_dict_pop_3 _ _ _
  refine call_meetsIn PySem.F.slot_dict_pop dd.typeIs PySem.F.entry_dict_pop ha (meets_dict_pop_there (mixKind X.prog X.w) a (kV_is ry) more hm hp)
    ⟨vs, w', dd, by rw [← rel.length]; exact z, hw, fun h' dd' hs => h w' _ ?_ rw'⟩
  have he : ∃ q, h'.get? a = some q := let ⟨q, _, _, hq, _⟩ := dd'; ⟨q, hq⟩
  exact d_write I (by rw [e]; exact True.intro) hs he (dk_new (Nat.le_trans (dropK_le kvs k) z) hd (rel.drop k) dd')
/-- d.pop(k, x), not there -/
theorem d_popD {r : Value} {Q : Value → Shared → Prop} (I : Inv X pins σ H s) (e : H a = some (.dK kvs)) (ry : RelV (kV k) u) (l : valV kvs k = none) (h : ∀ s', Inv X pins σ H s' → Q r s') :
    wpAny (model X.prog X.w) A (call (.builtin "dict.pop") [.ref a, u, r]) Q E s := by
  obtain ⟨z, hd, vs, rel, dd⟩ := dk_of I.hok e
  have hn : valueAt vs k = none := RelO.none_of (by rw [← l]; exact rel.val k)
  have hp : (keyPart u).isSome = true := by
    cases k with
    | inl i => obtain ⟨t, q⟩ := (show ∃ t, u = Value.int i t from ry); subst q; rfl
    | inr x => obtain ⟨t, q⟩ := (show ∃ t, u = Value.str x t from ry); subst q; rfl
  exact call_meetsIn PySem.F.slot_dict_pop dd.typeIs PySem.F.entry_dict_pop (PySem.F.args_dict_pop_3 _ _ _) (meets_dict_pop_default (mixKind X.prog X.w) a (kV_is ry) hd hp r) ⟨vs, dd, hn, h _ (I.tok _)⟩
/-- d.clear() -/
theorem d_clear {Q : Value → Shared → Prop} (I : Inv X pins σ H s) (e : H a = some (.dK kvs)) (h : ∀ s', Inv X pins σ (upd H a (.dK [])) s' → Q .none s') : wpAny (model X.prog X.w) A (call (.builtin "dict.clear") [.ref a]) Q E s := by
  obtain ⟨z, hd, vs, rel, dd⟩ := dk_of I.hok e
  refine call_meetsIn PySem.F.slot_dict_clear dd.typeIs PySem.F.entry_dict_clear (PySem.F.args_dict_clear_1 _) (meets_dict_clear (mixKind X.prog X.w) a) ⟨vs, dd, by rw [← rel.length]; exact z, fun h' dd' hs => h _ ?_⟩
  have he : ∃ q, h'.get? a = some q := let ⟨q, _, _, hq, _⟩ := dd'; ⟨q, hq⟩
  exact d_write (t' := s.toks) I (by rw [e]; exact True.intro) hs he (dk_new (Nat.zero_le _) hd .nil dd')
/-- len(d) -/
theorem d_len {Q : Value → Shared → Prop} (I : Inv X pins σ H s) (e : Rd H a (.dK kvs)) (h : ∀ t s', Inv X pins σ H s' → Q (.int kvs.length t) s') : wpAny (model X.prog X.w) A (call (.builtin "len") [.ref a]) Q E s := by
  obtain ⟨z, hd, vs, rel, dd⟩ := dk_rd I.hok e
  refine call_len_dict hd dd (by rw [← rel.length]; rw [sizeLine_eq] at z; omega) ?_
  rw [← rel.length]
  exact h _ _ (I.tok _)
/-- if d -/
theorem d_truth {Q : Bool → Shared → Prop} (I : Inv X pins σ H s) (e : Rd H a (.dK kvs)) (h : ∀ s', Inv X pins σ H s' → Q (!kvs.isEmpty) s') : wpAny (model X.prog X.w) A (truthy (.ref a)) Q E s := by
  obtain ⟨z, hd, vs, rel, dd⟩ := dk_rd I.hok e
  refine wpAny_truthy_dict hd dd (by rw [← rel.length]; rw [sizeLine_eq] at z; omega) ?_
  have q : kvs.isEmpty = vs.isEmpty := by cases rel <;> rfl
  rw [← q]
  exact h _ (I.tok _)
end


/-! ### readings and rules -/
/-- the element of a subscription, not a slice -/
def NoSl (i : Expr) : Prop := ∀ ov iv, subscripted i false ov iv = operate [ov, iv] (getItem ov iv)
theorem subD_of {prog : Program} {w : World} {A : Around} {E : Value → Shared → Prop} {s : Shared} {env : Env} {value slice : Expr} {pos : Pos} {T id : String} {Q : Value → Shared → Prop}
    (hl : typeLookup (.type T) "__getitem__" = pure (some (.builtin id))) (hs : NoSl slice)
    (h : wpAny (model prog w) A (eval value env) (fun o s₁ => wpAny (model prog w) A (eval slice env) (fun i s₂ => s₂.TypeIs o T ∧ wpAny (model prog w) A (getItem o i) Q E s₂) E s₁) E s) :
    wpAny (model prog w) A (eval (.Subscript value slice pos) env) Q E s := by
  refine Subscript_ (wpAny_mono h (fun o s₁ h₁ => wpAny_mono h₁ (fun i s₂ h₂ => ?_) fun _ _ x => x) fun _ _ x => x)
  obtain ⟨hT, h₂⟩ := h₂
  unfold subscriptTail
  refine wpAny_bind ?_
  rw [getitemInPython_of_ne hT.not_modules]
  refine wpAny_bind (wpAny_specialOf hT hl ?_)
  have fin : wpAny (model prog w) A (subscripted slice false o i) (fun r s₃ => wpAny (model prog w) A (letTemporaryGo value o r >>= fun _ => pure r) Q E s₃) E s₂ := by
    rw [hs o i]
    exact wpAny_operating (wpAny_mono h₂ (fun r s₃ h₃ => wpAny_bind (wpAny_letTemporaryGo (wpAny_pure h₃))) fun _ _ x => x)
  first
    | exact wpAny_pure (wpAny_bind fin)
    | exact wpAny_bind (wpAny_pure (wpAny_bind fin))
    | exact wpAny_bind fin

theorem dict_typeIs {X : Cx} {pins : List (Addr × Obj)} {σ : St} {H : Hp} {s : Shared} {a : Addr} {y : V} {o : Option V} (I : Inv X pins σ H s) (g : DGet H a y o) : s.TypeIs (.ref a) "dict" := by
  rcases g with ⟨kvs, k, e, _, _⟩ | ⟨kvs, k, b, e, _, _, _⟩
  · obtain ⟨_, _, vs, _, dd⟩ := dk_rd I.hok e
    exact dd.typeIs
  · obtain ⟨_, _, xs, _, dd⟩ := dt_rd I.hok e
    exact dd.typeIs
theorem dict_noDict {X : Cx} {pins : List (Addr × Obj)} {σ : St} {H : Hp} {s : Shared} {a : Addr} {y : V} {o : Option V} (I : Inv X pins σ H s) (g : DGet H a y o) :
    ∀ b, Value.ref a = .ref b → ∃ ob, s.heap.get? b = some ob ∧ ob.dict = none := fun b q => by
  cases q
  rcases g with ⟨kvs, k, e, _, _⟩ | ⟨kvs, k, b, e, _, _, _⟩
  · obtain ⟨_, _, vs, _, ob, _, _, h1, h2, _⟩ := dk_rd I.hok e
    exact ⟨ob, h1, h2.2.1⟩
  · obtain ⟨_, _, xs, _, ob, _, _, h1, h2, _⟩ := dt_rd I.hok e
    exact ⟨ob, h1, h2.2.1⟩

/-- d[y] -/
def tDGet (td ty : TE) : TE := fun σ H Q => td σ H fun x H1 => ty σ H1 fun y H2 => ∃ a v, x = .ref a ∧ DGet H2 a y (some v) ∧ Q v H2
/-- y in d, y not in d -/
def tDIn (ty td : TE) : TE := fun σ H Q => ty σ H fun y H1 => td σ H1 fun x H2 => ∃ a o, x = .ref a ∧ DGet H2 a y o ∧ Q (.bl o.isSome) H2
def tDNotIn (ty td : TE) : TE := fun σ H Q => ty σ H fun y H1 => td σ H1 fun x H2 => ∃ a o, x = .ref a ∧ DGet H2 a y o ∧ Q (.bl (!o.isSome)) H2
/-- d[y] = v -/
def sDPut (td ty tv : TE) : TS := fun D σ H => tv σ H fun v H1 => td σ H1 fun x H2 => ty σ H2 fun y H3 => ∃ a H4, x = .ref a ∧ DPut H3 a y v H4 ∧ D.nx σ H4
/-- d[y] op= v -/
def sDAug (td ty tv : TE) (rd : V → V → Hp → VK → Prop) : TS := fun D σ H => td σ H fun x H1 => ty σ H1 fun y H2 => ∃ a v, x = .ref a ∧ DGet H2 a y (some v) ∧
  tv σ H2 fun y2 H3 => rd v y2 H3 fun z H4 => ∃ H5, DPut H4 a y z H5 ∧ D.nx σ H5
/-- del d[y] -/
def sDDel (td ty : TE) : TS := fun D σ H => td σ H fun x H1 => ty σ H1 fun y H2 => ∃ a kvs k, x = .ref a ∧ H2 a = some (.dK kvs) ∧ y = kV k ∧ (valV kvs k).isSome = true ∧ D.nx σ (upd H2 a (.dK (dropK kvs k)))

section
variable {X : Cx} {o i e value : Expr} {pos pos' tpos : Pos} {td ty tv : TE}
theorem pe_dget (hu : X.A.units + 1 < cLine) (ho : PE X o td) (hi : PE X i ty) (hs : NoSl i) : PE X (.Subscript o i pos) (tDGet td ty) := by
  intro pins s σ H Q I h
  refine subD_of PySem.F.slot_dict_getitem.lookup hs (thn (ho pins s σ H _ I h) fun u s1 ⟨x, H1, I1, rx, q1⟩ => thn (hi pins s1 σ H1 _ I1 q1) fun iv s2 ⟨y, H2, I2, ry, a, v, ex, g, q2⟩ => ?_)
  subst ex
  obtain rfl : u = Value.ref a := rx
  exact ⟨dict_typeIs I2 g, d_getItem hu I2 g ry fun w' s3 I3 rw' => ⟨v, H2, I3, rw', q2⟩⟩
theorem pc_din (hu : X.A.units + 1 < cLine) (hi : PE X i ty) (ho : PE X o td) : PC X .In i o (tDIn ty td) := by
  intro pins s σ H Q I h
  refine thn (hi pins s σ H _ I h) fun iv s1 ⟨y, H1, I1, ry, q1⟩ => thn (ho pins s1 σ H1 _ I1 q1) fun u s2 ⟨x, H2, I2, rx, a, ov, ex, g, q2⟩ => ?_
  subst ex
  obtain rfl : u = Value.ref a := rx
  exact d_in hu I2 g ry fun s3 I3 => ⟨.bl ov.isSome, H2, I3, rfl, q2⟩
theorem pc_dnotin (hu : X.A.units + 1 < cLine) (hi : PE X i ty) (ho : PE X o td) : PC X .NotIn i o (tDNotIn ty td) := by
  intro pins s σ H Q I h
  refine thn (hi pins s σ H _ I h) fun iv s1 ⟨y, H1, I1, ry, q1⟩ => thn (ho pins s1 σ H1 _ I1 q1) fun u s2 ⟨x, H2, I2, rx, a, ov, ex, g, q2⟩ => ?_
  subst ex
  obtain rfl : u = Value.ref a := rx
  exact d_notIn hu I2 g ry fun s3 I3 => ⟨.bl (!ov.isSome), H2, I3, rfl, q2⟩
theorem ps_dput (hu : X.A.units + 1 < cLine) (ho : PE X o td) (hi : PE X i ty) (hv : PE X value tv) (hs : swapsWith value (some (.Subscript o i pos')) pos.line X.env = pure false) :
    PS X (.Assign [.Subscript o i pos'] value pos) (sDPut td ty tv) := by
  intro pins s σ H D I h
  refine wpAny_Assign_Subscript (thn (hv pins s σ H _ I h) fun r s1 ⟨v, H1, I1, rv, q1⟩ => thn (ho pins s1 σ H1 _ I1 q1) fun u s2 ⟨x, H2, I2, rx, q2⟩ => thn (hi pins s2 σ H2 _ I2 q2) fun iv s3 ⟨y, H3, I3, ry, a, H4, ex, g, q3⟩ => ?_) hs
  subst ex
  obtain rfl : u = Value.ref a := rx
  exact d_setItem hu I3 g ry rv fun s4 I4 => ⟨σ, H4, I4, q3⟩
theorem ps_daug {op : Operator} {rd : V → V → Hp → VK → Prop} (hu : X.A.units + 1 < cLine) (ho : PE X o td) (hi : PE X i ty) (hv : PE X value tv) (hop : InOp X op rd)
    (ha : ∀ ov iv new, augStore i ov iv new = (do holding [new, ov, iv] (setItem ov iv new); release [new, ov, iv] []; pure .next)) : PS X (.AugAssign (.Subscript o i tpos) op value pos) (sDAug td ty tv rd) := by
  intro pins s σ H D I h
  refine wpAny_AugAssign_SubscriptAny (thn (ho pins s σ H _ I h) fun u s1 ⟨x, H1, I1, rx, q1⟩ => thn (hi pins s1 σ H1 _ I1 q1) fun iv s2 ⟨y, H2, I2, ry, a, v, ex, g, q2⟩ => ?_) ha
  subst ex
  obtain rfl : u = Value.ref a := rx
  refine d_getItem hu I2 g ry fun w' s3 I3 rw' => thn (hv pins s3 σ H2 _ I3 q2) fun w2 s4 ⟨y2, H3, I4, ry2, q3⟩ => thn (hop pins s4 σ H3 v y2 w' w2 _ I4 rw' ry2 q3) fun w3 s5 ⟨z, H4, I5, rz, H5, g5, q4⟩ => ?_
  exact d_setItem hu I5 g5 ry rz fun s6 I6 => ⟨σ, H5, I6, q4⟩
theorem ps_ddel (ho : PE X o td) (hi : PE X i ty) : PS X (.Delete [.Subscript o i tpos] pos) (sDDel td ty) := by
  intro pins s σ H D I h
  refine wpAny_Delete (wpAny_deleteEach_cons (wpAny_delete_Subscript (thn (ho pins s σ H _ I h) fun u s1 ⟨x, H1, I1, rx, q1⟩ => thn (hi pins s1 σ H1 _ I1 q1) fun iv s2 ⟨y, H2, I2, ry, a, kvs, k, ex, e, ey, l, q2⟩ => ?_)))
  subst ex ey
  obtain rfl : u = Value.ref a := rx
  exact d_delItem I2 e ry l fun s3 I3 => wpAny_deleteEach_nil ⟨σ, _, I3, q2⟩
end


/-! ### displays -/
theorem dk_empty {P : Program} {w : World} {H : Hp} (h : Heap) (hb : sysModules < h.objs.size) : ObjOk P w H (h.push { cls := .type "dict", data := .dict #[] }) h.objs.size (.dK []) :=
  ⟨Nat.zero_le _, beq_eq_false_iff_ne.mpr (Ne.symm (Nat.ne_of_lt hb)), [], .nil, Heap.DictOf.new h⟩
theorem dt_empty {P : Program} {w : World} {H : Hp} (h : Heap) (hb : sysModules < h.objs.size) : ObjOk P w H (h.push { cls := .type "dict", data := .dict #[] }) h.objs.size (.dT []) :=
  ⟨Nat.zero_le _, beq_eq_false_iff_ne.mpr (Ne.symm (Nat.ne_of_lt hb)), [], .nil, _, #[], 0, Heap.get?_push_size _ rfl, ⟨rfl, rfl, rfl⟩, rfl, rfl, List.nodup_nil⟩
/-- {}, to be a dict of the kind that is wanted -/
def tDNewK : TE := fun _ H Q => ∀ p, H p = none → Q (.ref p) (upd H p (.dK []))
def tDNewT : TE := fun _ H Q => ∀ p, H p = none → Q (.ref p) (upd H p (.dT []))
section
variable {X : Cx} {pos : Pos}
theorem pe_dnewK : PE X (.Dict [] [] pos) tDNewK := fun pins s σ H Q I h =>
  wpAny_Dict_empty ⟨.ref s.heap.objs.size, _, I.laid (a := s.heap.objs.size) (o := .dK []) (t' := s.toks) (fun _ _ q => Heap.get?_push_of_some _ q) (Nat.le_refl _) (dk_empty s.heap I.big), rfl, h _ (I.hok.fresh (Nat.le_refl _))⟩
theorem pe_dnewT : PE X (.Dict [] [] pos) tDNewT := fun pins s σ H Q I h =>
  wpAny_Dict_empty ⟨.ref s.heap.objs.size, _, I.laid (a := s.heap.objs.size) (o := .dT []) (t' := s.toks) (fun _ _ q => Heap.get?_push_of_some _ q) (Nat.le_refl _) (dt_empty s.heap I.big), rfl, h _ (I.hok.fresh (Nat.le_refl _))⟩
end

/-- the pairs of a display, from the left -/
def tPairs : List (TE × TE) → St → Hp → (List (V × V) → Hp → Prop) → Prop
  | [], _, H, Q => Q [] H
  | (tk, tv) :: r, σ, H, Q => tk σ H fun x H1 => tv σ H1 fun y H2 => tPairs r σ H2 fun ps H3 => Q ((x, y) :: ps) H3
abbrev VV : List (V × V) → List (Value × Value) → Prop := Paired fun p q => RelV p.1 q.1 ∧ RelV p.2 q.2
def PPs (X : Cx) (pos : Pos) (keys : List (Option Expr)) (values : List Expr) (trs : List (TE × TE)) : Prop :=
  ∀ (pins : List (Addr × Obj)) (s : Shared) (σ : St) (H : Hp) (Q : List (V × V) → Hp → Prop), Inv X pins σ H s → tPairs trs σ H Q →
    wpAny (model X.prog X.w) X.A (evalPairs (pairTrees keys values X.env pos)) (fun vs s' => ∃ ps H', Inv X pins σ H' s' ∧ VV ps vs ∧ Q ps H') X.xe s
theorem pps_nil {X : Cx} {pos : Pos} : PPs X pos [] [] [] := fun pins s σ H Q I h => pairTrees_nil_walk ⟨[], H, I, .nil, h⟩
theorem pps_cons {X : Cx} {pos : Pos} {k v : Expr} {ks : List (Option Expr)} {vs : List Expr} {tk tv : TE} {trs : List (TE × TE)} (hk : PE X k tk) (hv : PE X v tv) (hr : PPs X pos ks vs trs) :
    PPs X pos (some k :: ks) (v :: vs) ((tk, tv) :: trs) := fun pins s σ H Q I h =>
  pairTrees_cons_walk (thn (hk pins s σ H _ I h) fun u s1 ⟨x, H1, I1, rx, q1⟩ => thn (hv pins s1 σ H1 _ I1 q1) fun w2 s2 ⟨y, H2, I2, ry, q2⟩ =>
    thn (hr pins s2 σ H2 _ I2 q2) fun ws s3 ⟨ps, H3, I3, rel, q3⟩ => ⟨(x, y) :: ps, H3, I3, .cons ⟨rx, ry⟩ rel, q3⟩)

def mergeK (kvs more : List (Key × V)) : List (Key × V) := more.foldl (fun acc kv => putK acc kv.1 kv.2) kvs
theorem KV.merge : ∀ {more : List (Key × V)} {rs : List (Key × Value)} {kvs : List (Key × V)} {vs : List (Key × Value)}, KV more rs → KV kvs vs → KV (mergeK kvs more) (merged vs rs) := by
  intro more rs kvs vs r
  unfold KV at r
  induction r generalizing kvs vs with
  | nil => intro q; exact q
  | @cons p q ps qs h t ih =>
    intro r0
    have e : KV (putK kvs p.1 p.2) (stored vs q.1 q.2) := by
      have := r0.put p.1 h.2
      rw [← h.1]; exact this
    exact ih e
theorem length_mergeK : ∀ (more kvs : List (Key × V)), (mergeK kvs more).length ≤ kvs.length + more.length
  | [], kvs => by show kvs.length ≤ kvs.length + 0; omega
  | p :: r, kvs => by
    have h1 := length_mergeK r (putK kvs p.1 p.2)
    have h2 := length_putK kvs p.1 p.2
    show (mergeK (putK kvs p.1 p.2) r).length ≤ _
    rw [List.length_cons]; omega
theorem carries_of {P : Program} {w : World} : ∀ {kvs : List (Key × V)} {ws : List (Value × Value)}, VV (kvs.map fun kv => (kV kv.1, kv.2)) ws → ∃ rs, Carries (mixKind P w) ws rs ∧ KV kvs rs
  | [], _, r => by rw [List.map_nil] at r; cases r; exact ⟨[], True.intro, .nil⟩
  | p :: kvs, _, r => by
    rw [List.map_cons] at r
    cases r with
    | @cons a b as bs h t =>
      obtain ⟨rs, c, q⟩ := carries_of (P := P) (w := w) t
      obtain ⟨b1, b2⟩ := b
      exact ⟨(p.1, b2) :: rs, ⟨kV_is h.1, rfl, c⟩, .cons ⟨rfl, h.2⟩ q⟩
/-- {k: v, ..} with keys ints and texts; the new dict stands empty while the pairs are made -/
def tDisp (trs : List (TE × TE)) : TE := fun σ H Q => ∀ p, H p = none → tPairs trs σ (upd H p (.dK [])) fun ps H2 => H2 p = some (.dK []) ∧ ∃ kvs : List (Key × V), ps = kvs.map (fun kv => (kV kv.1, kv.2)) ∧ kvs.length ≤ 15 ∧ Q (.ref p) (upd H2 p (.dK (mergeK [] kvs)))
theorem pe_disp {X : Cx} {pos : Pos} {keys : List (Option Expr)} {values : List Expr} {trs : List (TE × TE)} (h : PPs X pos keys values trs) (hall : keys.all (·.isSome) = true) (hl : keys.length = values.length) (h0 : keys ≠ [])
    (h15 : keys.length ≤ 15) : PE X (.Dict keys values pos) (tDisp trs) := by
  intro pins s σ H Q I q
  have hn := I.hok.fresh (Nat.le_refl s.heap.objs.size)
  have I1 := I.laid (a := s.heap.objs.size) (o := .dK []) (h' := s.heap.push { cls := .type "dict", data := .dict #[] }) (t' := s.toks) (fun _ _ q => Heap.get?_push_of_some _ q) (Nat.le_refl _) (dk_empty s.heap I.big)
  refine wpAny_Dict_walk (knd := mixKind X.prog X.w) hall hl h0 h15 (thn (h pins _ σ _ _ I1 (q _ hn)) fun ws s2 ⟨ps, H2, I2, rel, e, kvs, ep, lk, q2⟩ => ?_)
  subst ep
  obtain ⟨rs, c, rk⟩ := carries_of (P := X.prog) (w := X.w) rel
  obtain ⟨z, hd, vs0, r0, dd⟩ := dk_of I2.hok e
  cases r0
  refine ⟨rs, c, dd, fun h' dd' hs => ⟨.ref s.heap.objs.size, _, ?_, rfl, q2⟩⟩
  have hz : (mergeK [] kvs).length ≤ sizeLine := by
    have h1 := length_mergeK kvs []
    rw [List.length_nil] at h1
    rw [sizeLine_eq]; omega
  have he : ∃ q, h'.get? s.heap.objs.size = some q := let ⟨q, _, _, hq, _⟩ := dd'; ⟨q, hq⟩
  exact d_write I2 (by rw [e]; exact True.intro) hs he (dk_new hz hd (rk.merge .nil) dd')


/-! ### methods -/
/-- a method call o.m(e) of a built-in, with one argument: what must be seen of the text -/
structure M1 (X : Cx) (o : Expr) (m : Str) (apos : Pos) (e : Expr) (cpos : Pos) : Prop where
  base : attributeBase o m X.env (eval o X.env) = eval o X.env
  few : ((backTo cpos (starEach [e] X.env)).all (fun x => !x.1) && (backToKw cpos (keywordEach [] X.env)).all (fun x => x.1.isSome)
    && decide (([e] : List Expr).length + ([] : List Keyword).length + (if ([] : List Keyword).isEmpty then 0 else 1) < 30)) = true
  line : (apos.endLine == cpos.line) = true
  trees : backTo cpos (starEach [e] X.env) = [(false, eval e X.env)]
structure M2 (X : Cx) (o : Expr) (m : Str) (apos : Pos) (e f : Expr) (cpos : Pos) : Prop where
  base : attributeBase o m X.env (eval o X.env) = eval o X.env
  few : ((backTo cpos (starEach [e, f] X.env)).all (fun x => !x.1) && (backToKw cpos (keywordEach [] X.env)).all (fun x => x.1.isSome)
    && decide (([e, f] : List Expr).length + ([] : List Keyword).length + (if ([] : List Keyword).isEmpty then 0 else 1) < 30)) = true
  line : (apos.endLine == cpos.line) = true
  trees : backTo cpos (starEach [e, f] X.env) = [(false, eval e X.env), (false, eval f X.env)]

/-- a is a dict, whatever its keys -/
def IsD (H : Hp) (a : Addr) : Prop := (∃ kvs, Rd H a (.dK kvs)) ∨ ∃ kvs, Rd H a (.dT kvs)
theorem isD_at {X : Cx} {pins : List (Addr × Obj)} {σ : St} {H : Hp} {s : Shared} {a : Addr} (I : Inv X pins σ H s) (d : IsD H a) :
    s.TypeIs (.ref a) "dict" ∧ (∀ b, Value.ref a = .ref b → ∃ ob, s.heap.get? b = some ob ∧ ob.dict = none) ∧ (a == sysModules) = false := by
  rcases d with ⟨kvs, e⟩ | ⟨kvs, e⟩
  · obtain ⟨_, hd, vs, _, dd⟩ := dk_rd I.hok e
    refine ⟨dd.typeIs, fun b q => ?_, hd⟩
    cases q
    obtain ⟨ob, _, _, h1, h2, _⟩ := dd
    exact ⟨ob, h1, h2.2.1⟩
  · obtain ⟨_, hd, xs, _, dd⟩ := dt_rd I.hok e
    refine ⟨dd.typeIs, fun b q => ?_, hd⟩
    cases q
    obtain ⟨ob, _, _, h1, h2, _⟩ := dd
    exact ⟨ob, h1, h2.2.1⟩

section
variable {X : Cx} {pins : List (Addr × Obj)} {σ : St} {H : Hp} {s : Shared} {a : Addr} {y d : V} {u r : Value} {o : Option V} {A : Around} {E : Value → Shared → Prop}
/-- d.get(y) -/
theorem d_get1 {Q : Value → Shared → Prop} (hu : A.units + 1 < cLine) (I : Inv X pins σ H s) (g : DGet H a y o) (ry : RelV y u) (h : ∀ w' s', Inv X pins σ H s' → RelV (o.getD .non) w' → Q w' s') :
    wpAny (model X.prog X.w) A (call (.builtin "dict.get") [.ref a, u]) Q E s := by
  rcases g with ⟨kvs, k, e, ey, l⟩ | ⟨kvs, k, b, e, ey, eb, l⟩
  · subst ey
    obtain ⟨z, hd, vs, rel, dd⟩ := dk_rd I.hok e
    refine call_meetsIn PySem.F.slot_dict_get dd.typeIs PySem.F.entry_dict_get (PySem.F.args_dict_get_2 _ _) (meets_dict_get (mixKind X.prog X.w) a (kV_is ry) hd) ⟨_, dd.mapOf, h _ _ (I.tok _) ?_⟩
    rw [l]
    exact (rel.val k).getD rfl
  · subst ey
    cases (show u = Value.ref b from ry)
    obtain ⟨z, hd, xs, rel, dd⟩ := dt_rd I.hok e
    refine call_meetsIn PySem.F.slot_dict_get dd.typeIs PySem.F.entry_dict_get (PySem.F.args_dict_get_2 _ _) (meetsH_dict_get (tupleKind (mixKind X.prog X.w)) a b hd) ⟨tupleKind_room_in1 hu, k, xs, key_of I.hok eb, dd, h _ _ (I.tok _) ?_⟩
    rw [l]
    exact (rel.val k).getD rfl
/-- d.get(y, x) -/
theorem d_get2 {Q : Value → Shared → Prop} (hu : A.units + 1 < cLine) (I : Inv X pins σ H s) (g : DGet H a y o) (ry : RelV y u) (rd : RelV d r) (h : ∀ w' s', Inv X pins σ H s' → RelV (o.getD d) w' → Q w' s') :
    wpAny (model X.prog X.w) A (call (.builtin "dict.get") [.ref a, u, r]) Q E s := by
  rcases g with ⟨kvs, k, e, ey, l⟩ | ⟨kvs, k, b, e, ey, eb, l⟩
  · subst ey
    obtain ⟨z, hd, vs, rel, dd⟩ := dk_rd I.hok e
    refine call_meetsIn PySem.F.slot_dict_get dd.typeIs PySem.F.entry_dict_get (PySem.F.args_dict_get_3 _ _ _) (meets_dict_get_default (mixKind X.prog X.w) a (kV_is ry) hd r) ⟨_, dd.mapOf, h _ _ (I.tok _) ?_⟩
    rw [l]
    exact (rel.val k).getD rd
  · subst ey
    cases (show u = Value.ref b from ry)
    obtain ⟨z, hd, xs, rel, dd⟩ := dt_rd I.hok e
    refine call_meetsIn PySem.F.slot_dict_get dd.typeIs PySem.F.entry_dict_get (PySem.F.args_dict_get_3 _ _ _) (meetsH_dict_get_default (tupleKind (mixKind X.prog X.w)) a b hd r) ⟨tupleKind_room_in1 hu, k, xs, key_of I.hok eb, dd, h _ _ (I.tok _) ?_⟩
    rw [l]
    exact (rel.val k).getD rd
end

def tDGet1 (td ty : TE) : TE := fun σ H Q => td σ H fun x H1 => ∃ a, x = .ref a ∧ IsD H1 a ∧ ty σ H1 fun y H2 => ∃ o, DGet H2 a y o ∧ Q (o.getD .non) H2
def tDGet2 (td ty tx : TE) : TE := fun σ H Q => td σ H fun x H1 => ∃ a, x = .ref a ∧ IsD H1 a ∧ ty σ H1 fun y H2 => tx σ H2 fun z H3 => ∃ o, DGet H3 a y o ∧ Q (o.getD z) H3
/-- d.pop(k): there; d.pop(k, x): there or not -/
def tDPop1 (td ty : TE) : TE := fun σ H Q => td σ H fun x H1 => ∃ a, x = .ref a ∧ IsD H1 a ∧ ty σ H1 fun y H2 => ∃ kvs k v, H2 a = some (.dK kvs) ∧ y = kV k ∧ valV kvs k = some v ∧ Q v (upd H2 a (.dK (dropK kvs k)))
def tDPop2 (td ty tx : TE) : TE := fun σ H Q => td σ H fun x H1 => ∃ a, x = .ref a ∧ IsD H1 a ∧ ty σ H1 fun y H2 => tx σ H2 fun z H3 => ∃ kvs k, H3 a = some (.dK kvs) ∧ y = kV k ∧
  (∀ v, valV kvs k = some v → Q v (upd H3 a (.dK (dropK kvs k)))) ∧ (valV kvs k = none → Q z H3)
section
variable {X : Cx} {o e f : Expr} {apos cpos : Pos} {td ty tx : TE}
theorem pe_dget1 (hu : X.A.units + 1 < cLine) (ho : PE X o td) (he : PE X e ty) (m : M1 X o "get" apos e cpos) : PE X (.Call (.Attribute o "get" apos) [e] [] cpos) (tDGet1 td ty) := by
  intro pins s σ H Q I h
  refine wpAny_Call_method m.base m.few m.line PySem.F.plainAttrs_dict PySem.F.slot_dict_get PySem.F.type_dict_get (thn (ho pins s σ H _ I h) fun u s1 ⟨x, H1, I1, rx, a, ex, d, q1⟩ => ?_)
  subst ex
  obtain rfl : u = Value.ref a := rx
  obtain ⟨t1, t2, _⟩ := isD_at I1 d
  refine ⟨t1, t2, ?_⟩
  rw [m.trees]
  refine Calls.callWith_builtin rfl (Calls.evalArgs_plain (Calls.spliced_cons (thn (he pins s1 σ H1 _ I1 q1) fun iv s2 ⟨y, H2, I2, ry, ov, g, q2⟩ => Calls.spliced_nil ?_)))
  exact d_get1 hu I2 g ry fun w' s3 I3 rw' => ⟨_, H2, I3, rw', q2⟩
theorem pe_dget2 (hu : X.A.units + 1 < cLine) (ho : PE X o td) (he : PE X e ty) (hf : PE X f tx) (m : M2 X o "get" apos e f cpos) : PE X (.Call (.Attribute o "get" apos) [e, f] [] cpos) (tDGet2 td ty tx) := by
  intro pins s σ H Q I h
  refine wpAny_Call_method m.base m.few m.line PySem.F.plainAttrs_dict PySem.F.slot_dict_get PySem.F.type_dict_get (thn (ho pins s σ H _ I h) fun u s1 ⟨x, H1, I1, rx, a, ex, d, q1⟩ => ?_)
  subst ex
  obtain rfl : u = Value.ref a := rx
  obtain ⟨t1, t2, _⟩ := isD_at I1 d
  refine ⟨t1, t2, ?_⟩
  rw [m.trees]
  refine Calls.callWith_builtin rfl (Calls.evalArgs_plain (Calls.spliced_cons (thn (he pins s1 σ H1 _ I1 q1) fun iv s2 ⟨y, H2, I2, ry, q2⟩ =>
    Calls.spliced_cons (thn (hf pins s2 σ H2 _ I2 q2) fun fv s3 ⟨z, H3, I3, rz, ov, g, q3⟩ => Calls.spliced_nil ?_))))
  exact d_get2 hu I3 g ry rz fun w' s4 I4 rw' => ⟨_, H3, I4, rw', q3⟩
theorem pe_dpop1 (ho : PE X o td) (he : PE X e ty) (m : M1 X o "pop" apos e cpos) : PE X (.Call (.Attribute o "pop" apos) [e] [] cpos) (tDPop1 td ty) := by
  intro pins s σ H Q I h
  refine wpAny_Call_method m.base m.few m.line PySem.F.plainAttrs_dict PySem.F.slot_dict_pop PySem.F.type_dict_pop (thn (ho pins s σ H _ I h) fun u s1 ⟨x, H1, I1, rx, a, ex, d, q1⟩ => ?_)
  subst ex
  obtain rfl : u = Value.ref a := rx
  obtain ⟨t1, t2, _⟩ := isD_at I1 d
  refine ⟨t1, t2, ?_⟩
  rw [m.trees]
  refine Calls.callWith_builtin rfl (Calls.evalArgs_plain (Calls.spliced_cons (thn (he pins s1 σ H1 _ I1 q1) fun iv s2 ⟨y, H2, I2, ry, kvs, k, v, ea, ey, l, q2⟩ => Calls.spliced_nil ?_)))
  subst ey
  exact d_pop I2 ea ry l (.inl rfl) fun w' s3 I3 rw' => ⟨v, _, I3, rw', q2⟩
theorem pe_dpop2 (ho : PE X o td) (he : PE X e ty) (hf : PE X f tx) (m : M2 X o "pop" apos e f cpos) : PE X (.Call (.Attribute o "pop" apos) [e, f] [] cpos) (tDPop2 td ty tx) := by
  intro pins s σ H Q I h
  refine wpAny_Call_method m.base m.few m.line PySem.F.plainAttrs_dict PySem.F.slot_dict_pop PySem.F.type_dict_pop (thn (ho pins s σ H _ I h) fun u s1 ⟨x, H1, I1, rx, a, ex, d, q1⟩ => ?_)
  subst ex
  obtain rfl : u = Value.ref a := rx
  obtain ⟨t1, t2, _⟩ := isD_at I1 d
  refine ⟨t1, t2, ?_⟩
  rw [m.trees]
  refine Calls.callWith_builtin rfl (Calls.evalArgs_plain (Calls.spliced_cons (thn (he pins s1 σ H1 _ I1 q1) fun iv s2 ⟨y, H2, I2, ry, q2⟩ =>
    Calls.spliced_cons (thn (hf pins s2 σ H2 _ I2 q2) fun fv s3 ⟨z, H3, I3, rz, kvs, k, ea, ey, q3, q4⟩ => Calls.spliced_nil ?_))))
  subst ey
  cases l : valV kvs k with
  | some v => exact d_pop I3 ea ry l (.inr ⟨fv, rfl⟩) fun w' s4 I4 rw' => ⟨v, _, I4, rw', q3 v l⟩
  | none => exact d_popD I3 ea ry l fun s4 I4 => ⟨z, H3, I4, rz, q4 l⟩
end

/-! ### dict(d): a copy -/
section
variable {X : Cx} {pins : List (Addr × Obj)} {σ : St} {H : Hp} {s : Shared} {a : Addr} {kvs : List (Key × V)} {A : Around} {E : Value → Shared → Prop}
theorem d_copyOf {Q : Value → Shared → Prop} (I : Inv X pins σ H s) (e : Rd H a (.dK kvs)) (h : ∀ p s', H p = none → Inv X pins σ (upd H p (.dK kvs)) s' → Q (.ref p) s') : wpAny (model X.prog X.w) A (call (.type "dict") [.ref a]) Q E s := by
  obtain ⟨z, hd, vs, rel, dd⟩ := dk_rd I.hok e
  refine kt_call_dict hd dd (by rw [← rel.length]; exact z) fun h' dd' hs => ?_
  refine h _ _ (I.hok.fresh (Nat.le_refl _)) (I.laid (a := s.heap.objs.size) (o := .dK kvs) (t' := s.toks) (fun b q hq => ?_) (Nat.le_refl _) (dk_new z (beq_eq_false_iff_ne.mpr (Ne.symm (Nat.ne_of_lt I.big))) rel dd'))
  exact (hs.2 b (Nat.ne_of_lt (Heap.lt_size hq))).trans (Heap.get?_push_of_some _ hq)
end


section
variable {X : Cx} {pins : List (Addr × Obj)} {σ : St} {H : Hp} {s : Shared} {a : Addr} {y : V} {u : Value} {A : Around} {E : Value → Shared → Prop}
/-- d[y], not there: a KeyError -/
theorem d_missing {Q : Value → Shared → Prop} (hu : A.units + 1 < cLine) (hh : A.handled = none) (I : Inv X pins σ H s) (g : DGet H a y none) (ry : RelV y u)
    (h : ∀ h' e t', Heap.NewExc s.heap h' e "KeyError" → E (.ref e) { s with heap := h', toks := t' }) : wpAny (model X.prog X.w) A (getItem (.ref a) u) Q E s := by
  rcases g with ⟨kvs, k, e, ey, l⟩ | ⟨kvs, k, b, e, ey, eb, l⟩
  · subst ey
    obtain ⟨z, hd, vs, rel, dd⟩ := dk_rd I.hok e
    have hn : valueAt vs k = none := RelO.none_of (by rw [l]; exact rel.val k)
    exact wpAny_getItem_missing_of (kV_is ry) hd hh dd.mapOf hn fun h' ex ne => h h' ex _ ne
  · subst ey
    cases (show u = Value.ref b from ry)
    obtain ⟨z, hd, xs, rel, dd⟩ := dt_rd I.hok e
    have hn : (atKey xs k).map (·.2) = none := RelO.none_of (by rw [l]; exact rel.val k)
    exact wpAny_getItem_missing_heap (tupleKind_room_in1 hu) (key_of I.hok eb) hd hh dd (Option.map_eq_none_iff.mp hn) fun h' ex ne => h h' ex _ ne
end
end L2


namespace Att
open PySem PySem.W PySem.Calls PyProof.Rows

/-! ### the script -/
theorem ints_of_wellAll {P : Params} {h : Heap} : ∀ (ns : List Int) (vs : List Value), WellAll P h vs (ns.map WData.int) → IntsAre vs ns := by
  intro ns
  induction ns with
  | nil =>
    intro vs w
    rw [List.map_nil] at w
    cases w
    exact .nil
  | cons n ns ih =>
    intro vs w
    rw [List.map_cons] at w
    cases w with
    | cons a b =>
      cases a
      exact .cons _ _ (ih _ b)

theorem script_of {l : OpenLaw} {n : Nat} (hn : l.most = some n) {P : Params} {h : Heap} {args : List WData} {vals : List Value}
    (hpre : l.row.toRowW.claim.pre args = true) (hwl : WellAll P h vals args) :
    ∃ a vs ns, vals = [Value.ref a] ∧ args = [WData.list (ns.map WData.int)] ∧ h.get? a = some { cls := .type "list", data := .seq vs.toArray } ∧ IntsAre vs ns ∧ ns.length ≤ n := by
  have hsh : WShape.hasAll [] args [.list .int] = true := (pre_splitW hpre).1
  have hc : l.pre.holds [] { args := args } = true := (pre_splitW hpre).2
  obtain ⟨d, r, rfl, h1, h2⟩ := hasAllW_cons hsh
  obtain rfl := hasAllW_nil h2
  obtain ⟨xs, rfl, h3⟩ := hasW_list h1
  obtain ⟨ns, rfl⟩ := items_int h3
  have hlen : ns.length ≤ n := by
    unfold OpenLaw.pre at hc
    have h4 : (WTm.not (.lt (.lit (.int (n : Int))) (.len (.arg 0)))).holds [] { args := [.list (ns.map .int)] } = true := by
      have h4 := (holds_andW hc).1
      rw [hn] at h4
      exact h4
    have h5 := condW_of h4 (w_not (w_lt w_lit (w_len_list (w_arg rfl))))
    rw [List.length_map] at h5
    refine Nat.le_of_not_lt fun q => ?_
    have q' : (n : Int) < ((ns.length : Nat) : Int) := by omega
    first
      | (rw [decide_eq_true q'] at h5; exact absurd h5 (by decide))
      | (simp at h5; omega)
  cases hwl with
  | cons w1 w2 =>
    cases w2
    cases w1 with
    | list ho hall => exact ⟨_, _, ns, rfl, rfl, ho, ints_of_wellAll ns _ hall, hlen⟩

theorem post_true (l : OpenLaw) (args : List WData) : l.row.toRowW.claim.post args (.bool true) args = true :=
  postW_of (r := l.row.toRowW) (X := (true == true))
    (show WShape.has [] (.bool true) .bool = true by first | rfl | decide | simp [WShape.has, WShape.arms, WShape.armsAll])
    (show (WTm.eq .res (.lit (.bool true))).value [] { args := args, res := some (.bool true), after := args } = some (.bool (true == true)) from w_eq_bool (w_res rfl) w_lit) rfl

/-! ### the attachment: holds_open's last premise (the goal 'hc' behind k_head) from a wpAny of the law's body -/
theorem attach {l : OpenLaw} {n : Nat} {q : Program} {loose : List Str} {XP : (Str → Option Value) → Heap → Prop} {YP : World → Heap → Prop} {d : DefRec} {x : Str}
    (hn : l.most = some n) (hdf : d.params.defaults = [])
    (hbind : ∀ pm cd doc v : Value, bindArgs (docDef d.name d.params d.body d.scope pm cd doc) ⟨[v], []⟩ = pure [(x, v)])
    (hx : d.scope.names.lookup x = some .local ∨ d.scope.names.lookup x = some .cell)
    (hk : d.scope.kind = .function) (hco : d.scope.isCoroutine = false) (hgen : d.scope.isGenerator = false)
    (body : ∀ (w : World) (s₀ s₁ s : Shared) (mg mb : Str → Option Value) (fa : Addr) (o : Obj) (pm cd doc : Value) (a : Addr) (vs : List Value) (ns : List Int),
      Ground q loose [] XP w s₀ mg mb s₁.heap → YP w s₁.heap →
      s₁.heap.get? fa = some o → o.data = .func (docDef d.name d.params d.body d.scope pm cd doc) → s₁.heap.CodeRec cd d.name → mg d.name = some (.ref fa) →
      s₁.heap.get? a = some { cls := .type "list", data := .seq vs.toArray } → IntsAre vs ns → ns.length ≤ n →
      s.gens = #[] → s.os = s₁.os →
      Fr s₁.heap s₁.heap.objs.size s.heap (bindL (envOfC d.name d.scope s₁.heap.objs.size fa cd).kindOf [(x, .ref a)] fun _ => none) →
      Cl s₁.heap.objs.size (cellsFrom (s₁.heap.objs.size + 1) d.scope.names []) s.heap (bindC (envOfC d.name d.scope s₁.heap.objs.size fa cd).kindOf [(x, .ref a)] fun _ => none) →
      wpAny (model l.prog w) (callerA.deeper (envOfC d.name d.scope s₁.heap.objs.size fa cd)) (execs d.body (envOfC d.name d.scope s₁.heap.objs.size fa cd))
        (fun f s' => f = .ret (.bool true) ∧ OldK s₁.heap s'.heap ∧ s'.os = s₁.os ∧ AllBare s'.gens) (fun _ _ => False) s) :
    WalkO q loose XP YP l.row.toRowW d [] (fun f vs => PySem.call f vs) := by
  intro w s₀ s₁ mg mb G Y fa o pm cd doc dV kV ho hd hcd hD hmg hg args vals as hpre hlay hrd hwl hlo
  obtain rfl : dV = .none := Dflts.none hD hdf
  obtain rfl : kV = .none := Dflts.noKw hD
  obtain ⟨a, vs, ns, rfl, rfl, hobj, hints, hlen⟩ := script_of hn hpre hwl
  refine enter_call ?_
  refine call_cells_ret (o := o) (by rw [depth_caller]; decide) ho (fd_plain hd) G.T.nolimit hcd (hbind pm cd doc (.ref a)) (fun y hy => ?_) (fun h₁ tk F X => ?_) hco hgen hk
  · obtain rfl : y = (x, Value.ref a) := List.mem_singleton.mp hy
    rcases hx with e | e
    · exact .inl e
    · exact .inr ⟨e, cellsFrom_some _ _ _ (.inl e)⟩
  · refine wpAny_mono (body w s₀ s₁ { s₁ with heap := h₁, toks := tk } mg mb fa o pm cd doc a vs ns G Y ho (fd_plain hd) hcd hmg hobj hints hlen hg rfl F X) (fun f s' hq => ?_) (fun _ _ hq => hq)
    obtain ⟨rfl, h2, h3, h4⟩ := hq
    exact ⟨.inl ⟨.bool true, .bool true, [], rfl, fun _ => rfl, .bool true, post_true l _, fun _ => ⟨List.Pairwise.nil, fun _ hm => (nomatch hm)⟩⟩, h2, h3, h4⟩

/-- the same from a codeAny of the CALL (for a layer whose function contracts speak of calls) -/
theorem attach_call {l : OpenLaw} {n : Nat} {q : Program} {loose : List Str} {XP : (Str → Option Value) → Heap → Prop} {YP : World → Heap → Prop} {d : DefRec}
    (hn : l.most = some n) (hdf : d.params.defaults = [])
    (call : ∀ (w : World) (s₀ s₁ : Shared) (mg mb : Str → Option Value) (fa : Addr) (o : Obj) (pm cd doc : Value) (a : Addr) (vs : List Value) (ns : List Int),
      Ground q loose [] XP w s₀ mg mb s₁.heap → YP w s₁.heap →
      s₁.heap.get? fa = some o → o.data = .func (docDef d.name d.params d.body d.scope pm cd doc) → s₁.heap.CodeRec cd d.name → mg d.name = some (.ref fa) →
      s₁.heap.get? a = some { cls := .type "list", data := .seq vs.toArray } → IntsAre vs ns → ns.length ≤ n → s₁.gens = #[] →
      codeAny (model l.prog w) callerA (.call (.ref fa) ⟨[.ref a], []⟩) (fun r s' => r = .ok (.ret (.bool true)) ∧ OldK s₁.heap s'.heap ∧ s'.os = s₁.os ∧ AllBare s'.gens) s₁) :
    WalkO q loose XP YP l.row.toRowW d [] (fun f vs => PySem.call f vs) := by
  intro w s₀ s₁ mg mb G Y fa o pm cd doc dV kV ho hd hcd hD hmg hg args vals as hpre hlay hrd hwl hlo
  obtain rfl : dV = .none := Dflts.none hD hdf
  obtain rfl : kV = .none := Dflts.noKw hD
  obtain ⟨a, vs, ns, rfl, rfl, hobj, hints, hlen⟩ := script_of hn hpre hwl
  refine enter_call (codeAny_mono (call w s₀ s₁ mg mb fa o pm cd doc a vs ns G Y ho (fd_plain hd) hcd hmg hobj hints hlen hg) fun r s' hq => ?_)
  obtain ⟨rfl, h2, h3, h4⟩ := hq
  exact ⟨.inl ⟨.bool true, .bool true, [], rfl, fun _ => rfl, .bool true, post_true l _, fun _ => ⟨List.Pairwise.nil, fun _ hm => (nomatch hm)⟩⟩, h2, h3, h4⟩

/-- the same where the top left finished generators (o_head chose holds_openN): nothing may have changed at all and no generator may be left -/
theorem attachN {l : OpenLaw} {n : Nat} {q : Program} {loose : List Str} {XP : (Str → Option Value) → Heap → Prop} {YP : World → Heap → Prop} {d : DefRec} {x : Str}
    (hn : l.most = some n) (hdf : d.params.defaults = [])
    (hbind : ∀ pm cd doc v : Value, bindArgs (docDef d.name d.params d.body d.scope pm cd doc) ⟨[v], []⟩ = pure [(x, v)])
    (hx : d.scope.names.lookup x = some .local ∨ d.scope.names.lookup x = some .cell)
    (hk : d.scope.kind = .function) (hco : d.scope.isCoroutine = false) (hgen : d.scope.isGenerator = false)
    (body : ∀ (w : World) (s₀ s₁ s : Shared) (mg mb : Str → Option Value) (fa : Addr) (o : Obj) (pm cd doc : Value) (a : Addr) (vs : List Value) (ns : List Int),
      Ground q loose [] XP w s₀ mg mb s₁.heap → YP w s₁.heap →
      s₁.heap.get? fa = some o → o.data = .func (docDef d.name d.params d.body d.scope pm cd doc) → s₁.heap.CodeRec cd d.name → mg d.name = some (.ref fa) →
      s₁.heap.get? a = some { cls := .type "list", data := .seq vs.toArray } → IntsAre vs ns → ns.length ≤ n →
      s.gens = #[] → s.os = s₁.os →
      Fr s₁.heap s₁.heap.objs.size s.heap (bindL (envOfC d.name d.scope s₁.heap.objs.size fa cd).kindOf [(x, .ref a)] fun _ => none) →
      Cl s₁.heap.objs.size (cellsFrom (s₁.heap.objs.size + 1) d.scope.names []) s.heap (bindC (envOfC d.name d.scope s₁.heap.objs.size fa cd).kindOf [(x, .ref a)] fun _ => none) →
      wpAny (model l.prog w) (callerA.deeper (envOfC d.name d.scope s₁.heap.objs.size fa cd)) (execs d.body (envOfC d.name d.scope s₁.heap.objs.size fa cd))
        (fun f s' => f = .ret (.bool true) ∧ (∀ b o, s₁.heap.get? b = some o → s'.heap.get? b = some o) ∧ s'.os = s₁.os ∧ s'.gens = #[]) (fun _ _ => False) s) :
    WalkN q loose XP YP l.row.toRowW d [] (fun f vs => PySem.call f vs) := by
  intro w s₀ s₁ mg mb G Y fa o pm cd doc dV kV ho hd hcd hD hmg hg args vals as hpre hlay hrd hwl hlo
  obtain rfl : dV = .none := Dflts.none hD hdf
  obtain rfl : kV = .none := Dflts.noKw hD
  obtain ⟨a, vs, ns, rfl, rfl, hobj, hints, hlen⟩ := script_of hn hpre hwl
  refine enter_callW ?_
  refine call_cells_ret (o := o) (by rw [depth_caller]; decide) ho (fd_plain hd) G.T.nolimit hcd (hbind pm cd doc (.ref a)) (fun y hy => ?_) (fun h₁ tk F X => ?_) hco hgen hk
  · obtain rfl : y = (x, Value.ref a) := List.mem_singleton.mp hy
    rcases hx with e | e
    · exact .inl e
    · exact .inr ⟨e, cellsFrom_some _ _ _ (.inl e)⟩
  · refine wpAny_mono (body w s₀ s₁ { s₁ with heap := h₁, toks := tk } mg mb fa o pm cd doc a vs ns G Y ho (fd_plain hd) hcd hmg hobj hints hlen hg rfl F X) (fun f s' hq => ?_) (fun _ _ hq => hq)
    obtain ⟨rfl, h2, h3, h4⟩ := hq
    exact ⟨.inl ⟨.bool true, .bool true, [], rfl, fun _ => rfl, .bool true, post_true l _, fun _ => ⟨List.Pairwise.nil, fun _ hm => (nomatch hm)⟩⟩, h2, h3, h4⟩

/-! ### rules over ANY heap (no ledger) from facts about the written part K: the library's own take a ledger (News) for what they write -/
section
variable {prog : Program} {w : World} {A : Around} {E : Value → Shared → Prop} {s : Shared} {K : Frag}

/-- a def of the module, or a method (qual 'C.m'), entered: the frame is the next address; cells behind it -/
theorem call_fn {R : Result → Shared → Prop} {name qual : Str} {params : Arguments} {body : List Stmt} {scope : Scope} {dV kV doc pm cdv ct oc : Value} {an od : Option Addr} {osl : Array (Option Value)} {f : Addr} {args : Args} {binds : List (Str × Value)}
    (X : K.In s.heap) (hlim : s.heap.NoLimit) (ho : K.lookup f = some ⟨oc, od, .func (fnOf name qual params body scope dV kV doc pm an cdv ct), osl⟩) (hcd : codeIn K cdv qual = true) (hroom : A.depth < recursionLimit)
    (hbind : BindsTo s (fnOf name qual params body scope dV kV doc pm an cdv ct) args binds)
    (hkind : (binds.all fun y => scope.names.lookup y.1 == some .local || scope.names.lookup y.1 == some .cell) = true)
    (h : ∀ s₁, InCallC s s.heap.objs.size (bindL (envOfC qual scope s.heap.objs.size f cdv).kindOf binds fun _ => none) (cellsFrom (s.heap.objs.size + 1) scope.names [])
        (bindC (envOfC qual scope s.heap.objs.size f cdv).kindOf binds fun _ => none) s₁ →
      wpAny (model prog w) (A.deeper (envOfC qual scope s.heap.objs.size f cdv)) (execs body (envOfC qual scope s.heap.objs.size f cdv))
        (fun fl s' => R (.ok (.ret (match fl with | .ret v => v | _ => .none))) s')
        (fun e s' => wpAny (model prog w) (A.deeper (envOfC qual scope s.heap.objs.size f cdv)) (leaving (envOfC qual scope s.heap.objs.size f cdv) e) (fun _ s'' => R (.error e) s'') (fun e' s'' => R (.error e') s'') s') s₁)
    (hco : scope.isCoroutine = false) (hgen : scope.isGenerator = false) (hk : scope.kind = .function) : codeAny (model prog w) A (.call (.ref f) args) R s := by
  refine codeAny_call_function hroom (X _ _ ho) rfl hco hgen rfl (codeRec_of X hcd) (hbind _ _ _ _ ?_)
  refine wpAny_newFunctionEnv_cells hk (kindsX hkind _) fun env he s₁ x => ?_
  subst he
  exact ⟨hlim.keeps x.toInCall.keep, codeAny_func (h s₁ x)⟩

/-- C(..): dict at size, instance at size + 1, then __init__ -/
theorem make_obj {R : Result → Shared → Prop} {C fI : Addr} {rest : List Value} {kw : List (Str × Value)}
    (X : K.In s.heap) (hm : makesIn K C = true) (hi : findIn K (.ref C) "__init__" = some (some (.ref fI))) (hf : isFn K (.ref fI) = true)
    (h : codeAny (model prog w) (A.under (.builtin "type.__call__" ⟨.ref C :: rest, kw⟩)) (.call (.ref fI) ⟨.ref (s.heap.objs.size + 1) :: rest, kw⟩) (InitBack (s.heap.objs.size + 1) R)
      { s with heap := (s.heap.push emptyDict).push (instObj C s.heap.objs.size) }) : codeAny (model prog w) A (.call (.ref C) ⟨rest, kw⟩) R s := by
  obtain ⟨hh, g, d, t, os⟩ := s
  exact make_core (makes_of X hm) (looks_findIn X hi) (fun self => bind_fn X self (beq_iff_eq.mp hf)) (.inl rfl) h

/-- x.name where the instance's dict holds the name and the class does not -/
theorem get_field {x C : Addr} {ox : Obj} {es : List DictEntry} {n : Nat} {name : Str} {expr : Bool} {v : Value} {Q : Value → Shared → Prop}
    (X : K.In s.heap) (I : PySem.W.InstAt s.heap x ox C (some (dictOf es n))) (hg : plainGet K C name = true) (hh : hasDictIn K C = true) (ha : findIn K (.ref C) name = some none)
    (hl : getL name es = some (some v)) (hv : handedIn v = true) (h : Q v { s with toks := s.toks + 1 }) : wpAny (model prog w) A (getAttr (.ref x) name expr) Q E s :=
  get_value X I (plainGet_of hg).1 (findObj_own hh ha rfl hl) hv h

/-- x.m(..): the method found in the class -/
theorem get_method {x C f : Addr} {ox : Obj} {es : List DictEntry} {n : Nat} {name : Str} {pl : Sem Bool} {Q : Value × List Value → Shared → Prop}
    (X : K.In s.heap) (I : PySem.W.InstAt s.heap x ox C (some (dictOf es n))) (hg : plainGet K C name = true) (hf : findIn K (.ref C) name = some (some (.ref f))) (ht : isFn K (.ref f) = true)
    (hl : getL name es = some none) (h : Q (.ref f, [.ref x]) s) : wpAny (model prog w) A (getMethod (.ref x) name pl) Q E s :=
  method_fn X I (plainGet_of hg).1 (plainGet_of hg).2 hf (beq_iff_eq.mp ht) (by show (lookIn name (dictOf es n)).map _ = _; rw [lookIn_dict, hl]; rfl) h

/-! the whole heap as the ledger: makes every rule that writes through a ledger a rule over any heap -/
def noObjs (h : Heap) : Heap := { h with objs := #[] }
theorem noObjs_get (h : Heap) (b : Addr) : (noObjs h).get? b = none := by
  cases e : (noObjs h).get? b with
  | none => rfl
  | some o => exact absurd (Heap.lt_size e) (Nat.not_lt_zero _)
def ledger (h : Heap) (L d : Addr) : List (Addr × Obj) := (List.range h.objs.size).filterMap fun a => if a = L ∨ a = d then none else (h.get? a).map fun o => (a, o)
theorem mem_ledger {h : Heap} {L d a : Addr} {o : Obj} : (a, o) ∈ ledger h L d ↔ a ≠ L ∧ a ≠ d ∧ h.get? a = some o := by
  unfold ledger
  rw [List.mem_filterMap]
  constructor
  · rintro ⟨b, _, e⟩
    split at e
    · cases e
    · rename_i hb
      obtain ⟨o', ho, e'⟩ := Option.map_eq_some_iff.mp e
      cases e'
      exact ⟨fun q => hb (.inl q), fun q => hb (.inr q), ho⟩
  · rintro ⟨n1, n2, ho⟩
    refine ⟨a, List.mem_range.mpr (Heap.lt_size ho), ?_⟩
    rw [if_neg (show ¬ (a = L ∨ a = d) from fun q => q.elim n1 n2), ho] <;> rfl
theorem news_ledger {h : Heap} {L d : Addr} {od : Obj} (hne : d ≠ L) (ho : h.get? d = some od) : News (noObjs h) L h ([] ++ (d, od) :: ledger h L d) := by
  rintro ⟨a, o⟩ hp
  rcases List.mem_cons.mp hp with e | hp
  · cases e
    exact ⟨ho, hne, noObjs_get _ _⟩
  · obtain ⟨n1, n2, e⟩ := mem_ledger.mp hp
    exact ⟨e, n1, noObjs_get _ _⟩
theorem fr_all {h : Heap} {L : Addr} {m : Str → Option Value} (n : h.Ns L m) : Fr (noObjs h) L h m :=
  ⟨n, fun b o e => (by rw [noObjs_get] at e; cases e), Nat.zero_le _⟩
/-- Upd of the head entry (for append_K, setItem_K ..) -/
theorem upd_ledger {h : Heap} {L d : Addr} {o o' : Obj} : Upd d o o' ((d, o) :: ledger h L d) ((d, o') :: ledger h L d) :=
  .head fun ⟨_, _⟩ hp => (mem_ledger.mp hp).2.1

/-- x.name = v over any heap: L is any namespace of the heap (the frame's, say): its map stays, its object is not told; all else but the dict stays -/
theorem set_field {x C dx L : Addr} {ox : Obj} {m : Str → Option Value} {es es' : List DictEntry} {n n' : Nat} {name : Str} {v : Value} {Q : Unit → Shared → Prop}
    (X : K.In s.heap) (I : PySem.W.InstAt s.heap x ox C (some (dictOf es n))) (hd : ox.dict = some dx) (hL : s.heap.Ns L m) (hne : dx ≠ L)
    (hs : findIn K (.ref C) "__setattr__" = some (some (.builtin "object.__setattr__"))) (hp : plainOver K C = true) (ht : takerIn K C name = some none) (hh : hasDictIn K C = true) (hl : (getL name es).isSome = true)
    (e : (putL name (PyData.keyHash w.params name) (.str name (s.toks + 1)) v es, putN name es n) = (es', n')) (hz : es'.length ≤ 1000)
    (h : ∀ h' : Heap, h'.Ns L m → h'.get? dx = some (dictOf es' n') → (∀ b o, b ≠ dx → b ≠ L → s.heap.get? b = some o → h'.get? b = some o) → Q () { s with heap := h', toks := s.toks + 2 }) :
    wpAny (model prog w) A (setAttr (.ref x) name v) Q E s := by
  obtain ⟨e1, e2⟩ := Prod.mk.inj e
  have hdx : s.heap.get? dx = some (dictOf es n) := by
    have := I.dict
    rw [hd] at this
    exact this
  refine set_plain X I hs (osa_dict (s := { s with toks := s.toks + 1 }) (h₀ := noObjs s.heap) (L := L) (m := m) (od := dictOf es n) (od' := dictOf es' n') (es := es') (n := n') (pre := []) (post := ledger s.heap L dx)
    (fr_all hL) (news_ledger hne hdx) X I hd hp ht hh hl (fun _ q => nomatch q) (fun ⟨_, _⟩ q => (mem_ledger.mp q).2.1) (by rw [putName_dict, e1, e2]) rfl hz fun h' F' N' => ?_)
  exact h h' F'.ns (N'.get (List.Mem.head _)) fun b o n1 n2 ho => N'.get (List.Mem.tail _ (mem_ledger.mpr ⟨n2, n1, ho⟩))
end
end Att

namespace L2
open PySem PySem.Spec PyProof.Rows

theorem vals_ints : ∀ {vs : List Value} {ns : List Int}, IntsAre vs ns → Vals (ns.map V.int) vs
  | _, _, .nil => .nil
  | _, _, .cons n t h => .cons ⟨t, rfl⟩ (vals_ints h)

/-- nothing is tracked but the script, known to the object (or it is an object of the module) -/
def Only (H : Hp) : Prop := ∀ b, H b = none ∨ ∃ o xs, H b = some (.frz o (.lst xs))

/-- THE HEAD: the law's promise, at the heap behind the top. F, the promise of the law's def, may use that base is part of the heap (so K.In base, base.Ns mainGlobals mg stand in Mod) -/
theorem law_call {P : Program} {w : World} {K : PySem.W.Frag} {mg mb : Str → Option Value} {CX : CXT} {k : Nat} {fa a : Addr} {fd : FuncData} {x : Str} {sp : Sp} {s₁ : Shared} {vs : List Value} {ns : List Int}
    (KX : K.In s₁.heap) (hns : s₁.heap.Ns mainGlobals mg) (hb : s₁.heap.Ns builtinsNs mb) (hbb : ∀ x : Str, x ≠ "__name__" → mb x = bootBuiltins x) (hlim : s₁.heap.NoLimit) (hg : s₁.gens = #[])
    (ha : s₁.heap.get? a = some { cls := .type "list", data := .seq vs.toArray }) (hi : IntsAre vs ns) (hl : ns.length ≤ sizeLine) (hr : Room k callerA)
    (F : ∀ base : Heap, K.In base → base.Ns mainGlobals mg → FnOk P w K mg base CX k fa fd [x] sp) (hbind : ∀ (s : Shared) (u : Value), BindsTo s fd ⟨[u], []⟩ [(x, u)])
    (hsp : ∀ H : Hp, Only H → SqL K H a (ns.map V.int) → sp [.ref a] H (fun v _ => v = .bl true) fun _ _ _ => False)
    (hCX : ∀ H e s', CX [] H s₁ (fun _ _ _ => False) e s' → False) :
    codeAny (model P w) callerA (.call (.ref fa) ⟨[.ref a], []⟩) (fun r s' => r = .ok (.ret (.bool true)) ∧ OldK s₁.heap s'.heap ∧ s'.os = s₁.os ∧ AllBare s'.gens) s₁ := by
  have rv := vals_ints hi
  have lenV := hi.length
  -- from an abstract heap in which nothing but the script may be tracked
  have core : ∀ H : Hp, Only H → SqL K H a (ns.map V.int) → HOk P w H s₁.heap → (∀ b, H b ≠ none → b = a) → (H a ≠ none → K.lookup a = none) →
      codeAny (model P w) callerA (.call (.ref fa) ⟨[.ref a], []⟩) (fun r s' => r = .ok (.ret (.bool true)) ∧ OldK s₁.heap s'.heap ∧ s'.os = s₁.os ∧ AllBare s'.gens) s₁ := by
    intro H hO hS hok hA hK
    have base_of : ∀ {b : Addr} {o : Obj}, s₁.heap.get? b = some o → H b = none → (hidT s₁.heap H).get? b = some o := fun e n => hidT_get e n
    have noA : ∀ {b : Addr} {o : Obj} {es : Array DictEntry} {ep : Nat}, s₁.heap.get? b = some o → o.data = .dict es ep → H b = none := fun {b o es ep} e d => by
      cases q : H b with
      | none => rfl
      | some u =>
        have e' : b = a := hA b (by rw [q]; simp)
        subst e'
        rw [ha] at e; cases e
        have d' : Data.seq vs.toArray _ = Data.dict es ep := d
        cases d'
    have nsK : ∀ {b : Addr} {m : Str → Option Value}, s₁.heap.Ns b m → (hidT s₁.heap H).Ns b m := fun {b m} ⟨o, es, ep, e, d, r⟩ => ⟨o, es, ep, base_of e (noA e d), d, r⟩
    have hKb : K.In (hidT s₁.heap H) := fun b o e => base_of (KX b o e) (by
      cases q : H b with
      | none => rfl
      | some u =>
        have e' : b = a := hA b (by rw [q]; simp)
        subst e'
        rw [hK (by rw [q]; simp)] at e; cases e)
    have hM : Mod K mg (hidT s₁.heap H) := ⟨hKb, nsK hns, ⟨mb, nsK hb, hbb⟩, let ⟨mc, h1, h2⟩ := hlim; ⟨mc, nsK h1, h2⟩⟩
    have e0 : Env0 P w K mg (hidT s₁.heap H) callerA [] s₁ H := ⟨rfl, hM, fun b o e => of_hidT e, Nat.le_of_eq (hidT_size _ _), trivial, fun b hb => absurd (show b ∈ ([] : List Addr) from hb) (by simp), hok, .of_eq hg⟩
    refine codeAny_mono ((F _ hKb (nsK hns)).run callerA [] s₁ H ⟨[.ref a], []⟩ [.ref a] [.ref a] _ _ hr e0 (hbind s₁ (.ref a)) (.cons rfl .nil) (hsp H hO hS)) fun r s' h => ?_
    cases r with
    | error e => exact (hCX H e s' h).elim
    | ok fl =>
      cases fl with
      | next => exact False.elim h
      | brk => exact False.elim h
      | cont => exact False.elim h
      | ret u =>
        obtain ⟨v, H', os, bare, un, hok', r', q⟩ := h
        have q' : v = .bl true := q
        subst q'
        obtain rfl : u = Value.bool true := r'
        refine ⟨rfl, OldK.of_keep fun b o e => ?_, os, bare⟩
        cases q : H b with
        | none => exact un.keep b o e q (by intro z; exact absurd (show b ∈ ([] : List Addr) from z) (by simp)) (by simp)
        | some u =>
          rcases hO b with z | ⟨ob, xs, z⟩
          · rw [q] at z; cases z
          · have z2 := un.frzs b ob _ z
            obtain ⟨e1, _⟩ := hok b _ z
            obtain ⟨e2, _⟩ := hok' b _ z2
            rw [e] at e1; cases e1
            exact e2
  cases hk : K.lookup a with
  | some o =>
    -- the script is one of the module's own objects
    have e := KX a o hk
    rw [ha] at e
    cases e
    refine core (fun _ => none) (fun _ => .inl rfl) (.inr ⟨_, vs.toArray, _, hk, rfl, rfl, rfl, by rw [List.size_toArray, lenV]; exact hl, by simpa using rv⟩) (fun b u z => by have z' : (none : Option HO) = some u := z; cases z') (fun b z => absurd rfl z) fun z => absurd rfl z
  | none =>
    refine core (fun b => if b = a then some (.frz { cls := .type "list", data := .seq vs.toArray } (.lst (ns.map V.int))) else none) (fun b => ?_) (.inl (.inr ⟨{ cls := .type "list", data := .seq vs.toArray }, if_pos rfl⟩)) (fun b u z => ?_) (fun b z => ?_) fun _ => hk
    · by_cases hb : b = a
      · exact .inr ⟨_, _, if_pos hb⟩
      · exact .inl (if_neg hb)
    · by_cases hb : b = a
      · have z' := (if_pos hb).symm.trans z
        cases z'
        subst hb
        exact ⟨ha, by rw [List.length_map]; exact hl, vs, _, rv, ha⟩
      · have z' := (if_neg hb).symm.trans z
        cases z'
    · by_cases hb : b = a
      · exact hb
      · exact absurd (if_neg hb) z
end L2

namespace L2
open PySem PySem.Spec PyProof.Rows

abbrev KOf {K : PySem.W.Frag} {h : Heap} (_ : K.In h) : PySem.W.Frag := K

/-- the goal that k_head leaves (case hc), from the law's promise. F gives the function object fd (K's own) once, then the promise over every base -/
theorem walk_of {l : PySem.W.OpenLaw} {n k : Nat} {q : Program} {loose : List Str} {XP : (Str → Option Value) → Heap → Prop} {YP : World → Heap → Prop} {d : DefRec} {K : Params → PySem.W.Frag} {CX : World → CXT} {sp : World → Sp} {x : Str}
    (hn : l.most = some n) (hn2 : n ≤ sizeLine) (hdf : d.params.defaults = []) (hr : Room k callerA)
    (hY : ∀ (w : World) (h : Heap), YP w h → (K w.params).In h)
    (F : ∀ (w : World) (mg : Str → Option Value) (fa : Addr) (h : Heap), (K w.params).In h → h.Ns mainGlobals mg → mg d.name = some (.ref fa) →
      ∃ fd : FuncData, (∀ (s : Shared) (u : Value), BindsTo s fd ⟨[u], []⟩ [(x, u)]) ∧
        ∀ base : Heap, (K w.params).In base → base.Ns mainGlobals mg → FnOk l.prog w (K w.params) mg base (CX w) k fa fd [x] (sp w))
    (hsp : ∀ (w : World) (H : Hp) (a : Addr) (ns : List Int), ns.length ≤ n → Only H → SqL (K w.params) H a (ns.map V.int) → sp w [.ref a] H (fun v _ => v = .bl true) fun _ _ _ => False)
    (hCX : ∀ (w : World) (H : Hp) (s : Shared) (e : Value) (s' : Shared), CX w [] H s (fun _ _ _ => False) e s' → False) :
    PySem.W.WalkO q loose XP YP l.row.toRowW d [] (fun f vs => PySem.call f vs) := by
  refine Att.attach_call hn hdf fun w s₀ s₁ mg mb fa o pm cd doc a vs ns G Y ho hd hcd hmg hobj hints hlen hg => ?_
  have KX := hY w _ Y
  obtain ⟨fd, hb, hF⟩ := F w mg fa _ KX G.T.g hmg
  exact law_call KX G.T.g G.T.b G.T.builtins G.T.nolimit hg hobj hints (Nat.le_trans hlen hn2) hr hF hb (fun H hO hS => hsp w H a ns hlen hO hS) fun H e s' => hCX w H s₁ e s'
/-- the same where the promise hangs on the written part alone: (sp := My.sp_law), no hole under a binder -/
theorem walk_ofK {l : PySem.W.OpenLaw} {n k : Nat} {q : Program} {loose : List Str} {XP : (Str → Option Value) → Heap → Prop} {YP : World → Heap → Prop} {d : DefRec} {K : Params → PySem.W.Frag} {CX : CXT} {sp : PySem.W.Frag → Sp} {x : Str}
    (hn : l.most = some n) (hn2 : n ≤ sizeLine) (hdf : d.params.defaults = []) (hr : Room k callerA)
    (hY : ∀ (w : World) (h : Heap), YP w h → (K w.params).In h)
    (F : ∀ (w : World) (mg : Str → Option Value) (fa : Addr) (h : Heap), (K w.params).In h → h.Ns mainGlobals mg → mg d.name = some (.ref fa) →
      ∃ fd : FuncData, (∀ (s : Shared) (u : Value), BindsTo s fd ⟨[u], []⟩ [(x, u)]) ∧
        ∀ base : Heap, (K w.params).In base → base.Ns mainGlobals mg → FnOk l.prog w (K w.params) mg base CX k fa fd [x] (sp (K w.params)))
    (hsp : ∀ (K : PySem.W.Frag) (H : Hp) (a : Addr) (ns : List Int), ns.length ≤ n → Only H → SqL K H a (ns.map V.int) → sp K [.ref a] H (fun v _ => v = .bl true) fun _ _ _ => False)
    (hCX : ∀ (H : Hp) (s : Shared) (e : Value) (s' : Shared), CX [] H s (fun _ _ _ => False) e s' → False) :
    PySem.W.WalkO q loose XP YP l.row.toRowW d [] (fun f vs => PySem.call f vs) :=
  walk_of (K := K) (CX := fun _ => CX) (sp := fun w => sp (K w.params)) hn hn2 hdf hr hY F (fun w H a ns h1 h2 h3 => hsp (K w.params) H a ns h1 h2 h3) fun _ H s e s' => hCX H s e s'
end L2

/- THE LAST THEOREM (shape; LID, My.* are yours):
   My.Adr: a structure of the addresses that your layer names (classes, functions); My.Txt K t: a structure (Prop) of the equations over K;
   My.txt_mk : {K} {implicit addresses ..} (e1 : nsIn K mainGlobals "law" = some (some (.ref f))) (e2 : K.lookup f = some ⟨oc, od, .func (fnOf "law" "law" params body scope dV kV doc pm an cdv ct), sl⟩) (e3 : codeIn K cdv "law" = true) .. : ∃ t, My.Txt K t

set_option maxRecDepth 100000 in
set_option maxHeartbeats 0 in
theorem PySem.Challenge.cw_LID_holds : PySem.Challenge.rw_LID.Holds := by
  w_on; o_law; k_head; (case hw => w_witness2)
  k_fill
  refine L2.walk_of (l := PySem.Challenge.rw_LID) (n := 63) (k := 40) (x := "script") (CX := fun w => ..) (sp := fun _ => My.sp_law) rfl (by decide) rfl ⟨rfl, by decide, by decide⟩ (fun w h Y => PySem.W.kIn_of Y) ?F ?S ?C
  case F =>
    intro w mg fa h KX G hmg
    have T : ∃ t, My.Txt (L2.KOf KX) t := by
      dsimp only [L2.KOf]                          -- K must stand as «<heap const> w.params» for k_is
      refine' My.txt_mk ?e1 ?e2 ?e3 ..
      (case e1 => PySem.W.k_is)                    -- in the order: a name -> its address -> its object -> its parts
      (case e2 => PySem.W.k_is)
      ..
    obtain ⟨t, T⟩ := T
    have e0 := hmg.symm.trans (PySem.W.mg_of KX G T.law)
    cases e0                                       -- fa is the law's own address
    exact ⟨_, fun s u => .of_eq rfl, fun base kb nb => My.law_fn T kb nb⟩     -- if «.of_eq rfl» comes too early: refine' ⟨_, ?b, fun base kb nb => My.law_fn T kb nb⟩; exact fun s u => .of_eq rfl
  case S => exact fun w H a ns hl hO hS => ..
  case C => exact ..
(the tactic k_is has no namespace: write k_is) -/

/-! SHORT WORDS over the layer: a def of the text, its body, what a loop and a test want. -/
namespace L2
open PySem PySem.Spec PyProof.Rows

/-! ### the text by places -/
/-- the j-th statement of a class's body -/
def inClass (s : Stmt) (j : Nat) : Stmt := match s with
  | .ClassDef _ _ _ body _ _ _ _ _ _ _ => body.getD j (.Pass ⟨0, 0, 0, 0⟩)
  | _ => .Pass ⟨0, 0, 0, 0⟩
def defArgs (s : Stmt) : Arguments := match s with
  | .FunctionDef _ a _ _ _ _ _ _ _ _ => a
  | _ => { posonlyargs := [], args := [], vararg := none, kwonlyargs := [], kw_defaults := [], kwarg := none, defaults := [] }
def defBody (s : Stmt) : List Stmt := match s with
  | .FunctionDef _ _ b _ _ _ _ _ _ _ => b
  | _ => []
def defScope (s : Stmt) : Scope := match s with
  | .FunctionDef _ _ _ _ _ _ sc _ _ _ => sc
  | _ => { kind := .function, names := [], isGenerator := false, isCoroutine := false }

/-! ### no exception leaves a def -/
abbrev CX0 : CXT := fun _ _ _ _ _ _ => False
abbrev E0 : XK := fun _ _ _ => False
theorem pass0 {X : Cx} : Passes CX0 X E0 := fun _ _ _ _ _ _ _ h => h.elim

/-! ### a def (or method) of the text as it stands behind the top -/
structure Fun (K : PySem.W.Frag) (x qual : Str) (st : Stmt) (f : Addr) (fd : FuncData) : Prop where
  ex : ∃ (oc : Value) (od : Option Addr) (kV doc pm : Value) (an : Option Addr) (cdv ct : Value) (osl : Array (Option Value)),
    fd = PySem.W.fnOf x qual (defArgs st) (defBody st) (defScope st) .none kV doc pm an cdv ct ∧ K.lookup f = some ⟨oc, od, .func fd, osl⟩ ∧ PySem.W.codeIn K cdv qual = true
  kp : PySem.W.keepIn K (.ref f) = true
section
variable {P : Program} {w : World} {K : PySem.W.Frag} {mg : Str → Option Value} {base : Heap}
/-- THE RULE for a def: its body as a term of rules, and the reading of that term -/
theorem Fun.ok {x qual : Str} {st : Stmt} {f : Addr} {fd : FuncData} {N ps : List Str} {k : Nat} {sp : Sp} (F : Fun K x qual st f fd) (S : FnScope N ps (defScope st)) (len : ∀ vs H Q E, sp vs H Q E → vs.length = ps.length)
    (hbody : ∀ (cdv : Value) (A : Around) (outer : List Env) (s : Shared) (H : Hp) (vs : List V) (Q : VK) (E : XK), Room k (A.deeper (envOfC qual (defScope st) s.heap.objs.size f cdv)) → sp vs H Q E →
      ∃ t, PSs (cxOf CX0 P w K mg base N qual (defScope st) f cdv A outer s H E).nox (defBody st) t ∧ t { nx := fun _ H' => Q .non H', rt := Q } (start N vs) H) : FnOk P w K mg base CX0 (k + 1) f fd ps sp := by
  obtain ⟨oc, od, kV, doc, pm, an, cdv, ct, osl, rfl, lk, hcd⟩ := F.ex
  refine fn_of lk hcd S len fun A outer s H vs Q E hr hsp => ?_
  obtain ⟨t, h, q⟩ := hbody cdv A outer s H vs Q E hr hsp
  exact ⟨t, h.nox, q⟩
/-- how its arguments bind (no defaults): h is «fun _ _ _ _ _ _ us hl => match us, hl with | [_, _], _ => rfl», one _ a parameter -/
theorem Fun.binds {x qual : Str} {st : Stmt} {f : Addr} {fd : FuncData} {ps : List Str} (F : Fun K x qual st f fd)
    (h : ∀ (kV doc pm : Value) (an : Option Addr) (cdv ct : Value) (us : List Value), us.length = ps.length → bindArgs (PySem.W.fnOf x qual (defArgs st) (defBody st) (defScope st) .none kV doc pm an cdv ct) ⟨us, []⟩ = pure (ps.zip us)) : Binds K fd ps [] := by
  obtain ⟨oc, od, kV, doc, pm, an, cdv, ct, osl, rfl, lk, hcd⟩ := F.ex
  exact .all (h kV doc pm an cdv ct)
theorem fun_mk {x qual : Str} {st : Stmt} {f : Addr} {oc : Value} {od an : Option Addr} {osl : Array (Option Value)} {kV doc pm cdv ct : Value} (l : K.lookup f = some ⟨oc, od, .func (PySem.W.fnOf x qual (defArgs st) (defBody st) (defScope st) .none kV doc pm an cdv ct), osl⟩)
    (c : PySem.W.codeIn K cdv qual = true) (k : PySem.W.keepIn K (.ref f) = true) : Fun K x qual st f (PySem.W.fnOf x qual (defArgs st) (defBody st) (defScope st) .none kV doc pm an cdv ct) := ⟨⟨oc, od, kV, doc, pm, an, cdv, ct, osl, rfl, l, c⟩, k⟩
end
theorem hu_of {A : Around} {k : Nat} (hr : Room k A) : A.units + 1 < cLine := Nat.lt_of_le_of_lt (Nat.add_le_add_left (by decide : 1 ≤ 64) _) hr.units
theorem small1000 {n : Nat} (h : n ≤ 1000) : n < sizeLine := Nat.lt_of_le_of_lt h (by decide)

/-! ### expressions in short: the name that stands in the i-th slot -/
section
variable {X : Cx}
theorem pv (i : Nat) {x : Str} {pos : Pos} (hN : X.N[i]? = some x := by rfl) (hv : Vis X.env.scope x := by first | exact Or.inl rfl | exact Or.inr (Or.inl rfl) | exact Or.inr (Or.inr rfl)) (hd : (x == ("__debug__" : Str)) = false := by decide)
    (hcd : (x == ("__classdict__" : Str)) = false := by decide) : PE X (.Name x pos) (tVar i) := pe_var hN hv hd hcd
/-- len of a dict -/
theorem call_lenD : CallR X (.builtin "len") (fun xs H Q => ∃ a kvs, xs = [V.ref a] ∧ H a = some (.dK kvs) ∧ Q (.int kvs.length) H) := by
  intro pins s σ H xs us Q I r h
  obtain ⟨a, kvs, rfl, ha, q⟩ := h
  obtain ⟨u, rfl, ru⟩ := vals1 r
  cases ru
  exact d_len I (.inl ha) fun t s' I' => ⟨.int kvs.length, H, I', ⟨t, rfl⟩, q⟩
end

/-! ### tests -/
theorem iteF {A B : Prop} (h : B) : if false = true then A else B := by
  rw [if_neg Bool.false_ne_true]
  exact h
theorem iteT {A B : Prop} (h : A) : if true = true then A else B := by
  rw [if_pos rfl]
  exact h
theorem ite2 {c A B : Prop} [Decidable c] (h1 : c → A) (h2 : ¬ c → B) : if c then A else B := by
  by_cases h : c
  · rw [if_pos h]
    exact h1 h
  · rw [if_neg h]
    exact h2 h
theorem iteNS {c A B : Prop} [Decidable c] (hc : c) (h : B) : if (!decide c) = true then A else B := by
  rw [decide_eq_true hc]
  exact iteF h

/-! ### heaps -/
/-- all that was tracked is as it was -/
def Same (H H' : Hp) : Prop := ∀ b o, H b = some o → H' b = some o
theorem Same.refl (H : Hp) : Same H H := fun _ _ h => h
theorem Same.trans {H H1 H2 : Hp} (a : Same H H1) (b : Same H1 H2) : Same H H2 := fun c o h => b c o (a c o h)
theorem Same.free {H H' : Hp} (e : Same H H') {l : Addr} (h : H' l = Option.none) : H l = Option.none := by
  cases q : H l with
  | none => rfl
  | some o =>
    rw [e l o q] at h
    cases h
theorem Same.seq {K : PySem.W.Frag} {H H' : Hp} {a : Addr} {xs : List V} (e : Same H H') (h : SqL K H a xs) : SqL K H' a xs := by
  rcases h with (h | ⟨o, h⟩) | h
  · exact .inl (.inl (e _ _ h))
  · exact .inl (.inr ⟨o, e _ _ h⟩)
  · exact .inr h

/-! ### a dict's pairs: keys that differ -/
section
variable {κ : Type} [DecidableEq κ]
theorem valV_not {kvs : List (κ × V)} {k : κ} (h : valV kvs k = none) : ¬ k ∈ kvs.map (·.1) := by
  intro m
  obtain ⟨p, hp, e⟩ := List.mem_map.mp m
  have q : (kvs.any fun kv => decide (kv.1 = k)) = true := List.any_eq_true.mpr ⟨p, hp, decide_eq_true e⟩
  rw [valV_any, h] at q
  exact absurd q (by simp)
theorem valV_in {kvs : List (κ × V)} {k : κ} {v : V} (h : valV kvs k = some v) : k ∈ kvs.map (·.1) := by
  have q : (kvs.any fun kv => decide (kv.1 = k)) = true := by
    rw [valV_any, h]
    all_goals rfl
  obtain ⟨p, hp, e⟩ := List.any_eq_true.mp q
  exact List.mem_map.mpr ⟨p, hp, of_decide_eq_true e⟩
theorem nd_snoc : ∀ {l : List κ} {k : κ}, l.Nodup → ¬ k ∈ l → (l ++ [k]).Nodup
  | [], k, _, _ => by simp
  | a :: r, k, h, hk => by
    obtain ⟨h1, h2⟩ := List.nodup_cons.mp h
    show (a :: (r ++ [k])).Nodup
    refine List.nodup_cons.mpr ⟨fun m => ?_, nd_snoc h2 fun m => hk (List.mem_cons.mpr (Or.inr m))⟩
    rcases List.mem_append.mp m with q | q
    · exact h1 q
    · exact hk (List.mem_cons.mpr (Or.inl (List.mem_singleton.mp q).symm))
theorem nd_putK {kvs : List (κ × V)} {k : κ} (v : V) (hn : (kvs.map (·.1)).Nodup) (h : valV kvs k = none) : ((putK kvs k v).map (·.1)).Nodup := by
  rw [putK_new v h, List.map_append]
  exact nd_snoc hn (valV_not h)
theorem dropK_pos {p : κ × V} {r : List (κ × V)} {k : κ} (e : p.1 = k) : dropK (p :: r) k = dropK r k := by
  unfold dropK
  rw [List.filter_cons, if_neg (by simp [e])]
theorem dropK_neg {p : κ × V} {r : List (κ × V)} {k : κ} (e : ¬ p.1 = k) : dropK (p :: r) k = p :: dropK r k := by
  unfold dropK
  rw [List.filter_cons, if_pos (by simp [e])]
theorem dropK_no : ∀ {kvs : List (κ × V)} {k : κ}, ¬ k ∈ kvs.map (·.1) → dropK kvs k = kvs
  | [], _, _ => rfl
  | p :: r, k, h => by
    have h' : ¬ k ∈ r.map (·.1) := fun m => by
      obtain ⟨q, hq, e⟩ := List.mem_map.mp m
      exact h (List.mem_map.mpr ⟨q, List.mem_cons.mpr (Or.inr hq), e⟩)
    rw [dropK_neg fun e => h (List.mem_map.mpr ⟨p, List.mem_cons.mpr (Or.inl rfl), e⟩), dropK_no h']
theorem dropK_mem {kvs : List (κ × V)} {k : κ} {p : κ × V} (h : p ∈ dropK kvs k) : p ∈ kvs := (List.mem_filter.mp h).1
theorem nd_dropK : ∀ {kvs : List (κ × V)} {k : κ}, (kvs.map (·.1)).Nodup → ((dropK kvs k).map (·.1)).Nodup
  | [], _, _ => List.nodup_nil
  | p :: r, k, h => by
    have h : (p.1 :: r.map (·.1)).Nodup := h
    obtain ⟨h1, h2⟩ := List.nodup_cons.mp h
    by_cases e : p.1 = k
    · rw [dropK_pos e]
      exact nd_dropK h2
    · rw [dropK_neg e]
      show (p.1 :: (dropK r k).map (·.1)).Nodup
      refine List.nodup_cons.mpr ⟨fun m => h1 ?_, nd_dropK h2⟩
      obtain ⟨q, hq, eq⟩ := List.mem_map.mp m
      exact List.mem_map.mpr ⟨q, dropK_mem hq, eq⟩
theorem dropK_len : ∀ {kvs : List (κ × V)} {k : κ}, (kvs.map (·.1)).Nodup → k ∈ kvs.map (·.1) → (dropK kvs k).length + 1 = kvs.length
  | [], _, _, m => by simp at m
  | p :: r, k, h, m => by
    have h : (p.1 :: r.map (·.1)).Nodup := h
    have m : k = p.1 ∨ k ∈ r.map (·.1) := List.mem_cons.mp m
    obtain ⟨h1, h2⟩ := List.nodup_cons.mp h
    by_cases e : p.1 = k
    · subst e
      rw [dropK_pos rfl, dropK_no h1]
      all_goals rfl
    · have m' : k ∈ r.map (·.1) := m.resolve_left fun z => e z.symm
      have q := dropK_len h2 m'
      rw [dropK_neg e, List.length_cons, List.length_cons]
      omega
end
end L2

set_option Elab.async false
set_option linter.all false
set_option maxRecDepth 100000
set_option maxHeartbeats 1000000
namespace L2
open PySem PySem.Spec PyProof.Rows

/-! ### a comprehension's closure -/
/-- names told anew, their kinds by F -/
theorem lookup_told {F : Str × NameKind → Str × NameKind} (hF : ∀ p, (F p).1 = p.1) {x : Str} {k : NameKind} : ∀ {names : List (Str × NameKind)}, names.lookup x = some k → (names.map F).lookup x = some (F (x, k)).2
  | [], h => by cases h
  | (m, q) :: r, h => by
    have hm := hF (m, q)
    rw [List.map_cons, show F (m, q) = (m, (F (m, q)).2) from Prod.ext hm rfl]
    by_cases e : x = m
    · subst e
      rw [List.lookup_cons_self] at h ⊢
      cases h
      rfl
    · have eb : (x == m) = false := beq_eq_false_iff_ne.mpr e
      simp only [List.lookup, eb] at h ⊢
      exact lookup_told hF h
/-- a block's free name, relabelled: it is taken from a cell of the def around, or handed on -/
theorem lookup_relabel_free {env : Env} {x : Str} {names : List (Str × NameKind)} (h : names.lookup x = some .free) :
    (names.map fun (n, k) => if (k == NameKind.free && env.scope.kind == .function && env.kindOf n == some .cell) then (n, NameKind.cell) else (n, k)).lookup x = some .cell ∨
    (names.map fun (n, k) => if (k == NameKind.free && env.scope.kind == .function && env.kindOf n == some .cell) then (n, NameKind.cell) else (n, k)).lookup x = some .free := by
  rw [lookup_told (F := fun (n, k) => if (k == NameKind.free && env.scope.kind == .function && env.kindOf n == some .cell) then (n, NameKind.cell) else (n, k)) (fun p => by dsimp only; split <;> rfl) h]
  dsimp only
  split
  · exact .inl rfl
  · exact .inr rfl

theorem closure_ok {scope : Scope} {env : Env} (h : ∀ y ∈ scope.names, y.2 = .free → ∃ c, env.cells.lookup y.1 = some c) :
    ∃ cl, closureFor scope env = pure cl ∧ (∀ x c, cl.lookup x = some c → env.cells.lookup x = some c) ∧ ∀ y ∈ scope.names, y.2 = .free → ∃ c, cl.lookup y.1 = some c := by
  have key : ∀ (names : List (Str × NameKind)) (cs : List (Str × Addr)), (∀ y ∈ names, y.2 = .free → ∃ c, env.cells.lookup y.1 = some c) → (∀ x c, cs.lookup x = some c → env.cells.lookup x = some c) →
      ∃ cl : List (Str × Addr), (forIn names cs (fun (x : Str × NameKind) (r : List (Str × Addr)) => (do
        if x.2 == .free then do
          let a ← cellOf env x.1
          pure (ForInStep.yield ((x.1, a) :: r))
        else pure (ForInStep.yield r) : Sem (ForInStep (List (Str × Addr))))) : Sem (List (Str × Addr))) = pure cl ∧ (∀ x c, cl.lookup x = some c → env.cells.lookup x = some c) ∧
        (∀ x c, cs.lookup x = some c → ∃ c', cl.lookup x = some c') ∧ ∀ y ∈ names, y.2 = .free → ∃ c, cl.lookup y.1 = some c := by
    intro names
    induction names with
    | nil => intro cs _ hc; exact ⟨cs, rfl, hc, fun x c e => ⟨c, e⟩, fun y hy => nomatch hy⟩
    | cons y r ih =>
      intro cs hn hc
      obtain ⟨n, k⟩ := y
      by_cases hk : k = .free
      · subst hk
        obtain ⟨c, ec⟩ := hn (n, .free) List.mem_cons_self rfl
        have hcell : cellOf env n = pure c := by unfold cellOf; rw [ec]
        obtain ⟨cl, e, h1, h2, h3⟩ := ih ((n, c) :: cs) (fun y hy => hn y (List.mem_cons_of_mem _ hy)) (fun x c' q => by
          simp only [List.lookup_cons] at q
          cases hx : x == n with
          | true => rw [hx] at q; cases q; rw [eq_of_beq hx]; exact ec
          | false => rw [hx] at q; exact hc x c' q)
        refine ⟨cl, ?_, h1, fun x c' q => ?_, fun y hy hf => ?_⟩
        · rw [List.forIn_cons]
          show ((if (NameKind.free == NameKind.free) = true then (cellOf env n >>= fun a => pure (ForInStep.yield ((n, a) :: cs))) else pure (ForInStep.yield cs)) >>= _) = _
          rw [hcell]
          exact e
        · cases hx : x == n with
          | true => exact h2 x c (by simp only [List.lookup_cons, hx])
          | false => exact h2 x c' (by simp only [List.lookup_cons, hx]; exact q)
        · rcases List.mem_cons.mp hy with rfl | hy
          · exact h2 n c (by simp [List.lookup_cons])
          · exact h3 y hy hf
      · obtain ⟨cl, e, h1, h2, h3⟩ := ih cs (fun y hy => hn y (List.mem_cons_of_mem _ hy)) hc
        have hb : (k == NameKind.free) = false := by simpa using hk
        refine ⟨cl, ?_, h1, h2, fun y hy hf => ?_⟩
        · rw [List.forIn_cons]
          show ((if (k == NameKind.free) = true then (cellOf env n >>= fun a => pure (ForInStep.yield ((n, a) :: cs))) else pure (ForInStep.yield cs)) >>= _) = _
          rw [hb]
          exact e
        · rcases List.mem_cons.mp hy with rfl | hy
          · exact absurd hf hk
          · exact h3 y hy hf
  obtain ⟨cl, e, h1, _, h3⟩ := key scope.names [] h (fun x c q => by simp at q)
  refine ⟨cl, ?_, h1, h3⟩
  unfold closureFor
  exact congrArg (fun m => m >>= fun r => pure r) e

/-! ### the context of a comprehension's block -/
def cxComp (X : Cx) (N' : List Str) (scope : Scope) (cl : List (Str × Addr)) (pins : List (Addr × Obj)) (s : Shared) (H : Hp) (C : Addr) (fp : List Addr) : Cx where
  prog := X.prog
  w := X.w
  K := X.K
  mg := X.mg
  base := X.base
  A := X.A
  N := N'
  s₀ := s
  H₀ := H
  env := compEnvC scope cl C X.env
  outer := X.stack
  stack := X.stack
  ex := fp
  fn := fun _ => false
  calm := X.calm
  pn := X.pn ++ pins
  xe := fun _ _ => False

/-- the tests of a clause -/
def PIf (X : Cx) (ifs : List Expr) (t : TT) : Prop :=
  ∀ (pins : List (Addr × Obj)) (s : Shared) (σ : St) (H : Hp) (Q : Bool → Hp → Prop), Inv X pins σ H s → t σ H Q →
    wpAny (model X.prog X.w) X.A (forIn ifs true fun c r => if r = true then do let ok ← isTrue c X.env (eval c X.env); pure (ForInStep.yield ok) else pure (ForInStep.yield r)) (TP X pins σ Q) X.xe s
def tYes : TT := fun _ H Q => Q true H
theorem pif_nil {X : Cx} : PIf X [] tYes := fun _ _ _ H _ I h => wpAny_tests_nil ⟨H, I, h⟩
theorem pif_one {X : Cx} {c : Expr} {t : TT} (h : PT X c t) : PIf X [c] t := fun pins s σ H Q I hq => wpAny_tests_one (h pins s σ H Q I hq)

section
variable {prog : Program} {w : World} {A : Around} {R : Result → Shared → Prop} {s : Shared}
theorem compLoop_gen {elt target iter : Expr} {ifs : List Expr} {scope : Scope} {pos : Pos} {it acc : Value} {env : Env} (I : Nat → Shared → Prop)
    (turn : ∀ n s, I n s → wpAny (model prog w) A (pyNext it) (fun r s₁ => match r with | .none => R (.ok .next) s₁ | .some v => wpAny (model prog w) A (letOwnedTupleGo target it v) (fun _ s₁' => wpAny (model prog w) A (assign target env v) (fun _ s₂ => wpAny (model prog w) A (forIn ifs true fun c r => if r = true then do let ok ← isTrue c env (eval c env); pure (ForInStep.yield ok) else pure (ForInStep.yield r)) (fun ok s₃ => if ok = true then wpAny (model prog w) A (eval elt env) (fun x s₄ => wpAny (model prog w) A (call (.builtin "list.append") [acc, x]) (fun _ s₅ => ∃ m, m < n ∧ I m s₅) (fun _ _ => False) s₄) (fun _ _ => False) s₃ else ∃ m, m < n ∧ I m s₃) (fun _ _ => False) s₂) (fun _ _ => False) s₁') (fun _ _ => False) s₁) (fun _ _ => False) s)
    (n : Nat) (h : I n s) : codeAny (model prog w) A (.compLoop (.ListComp elt [⟨target, iter, ifs, 0⟩] scope pos) 0 it acc env) R s := by
  refine codeAny_loop rfl I (fun j s₀ hI => ?_) n h; show wpAny _ A ((compTurn (.ListComp elt [⟨target, iter, ifs, 0⟩] scope pos) 0 it acc env).onRaise (fun x => do noteFrame x env; theTreesLotGoes x)) _ _ s₀
  refine wpAny_noted ?_
  rw [compTurn_list]
  refine wpAny_bind (wpAny_standAt (wpAny_bind (wpAny_mono (turn j s₀ hI) (fun r s₁ h₁ => ?_) fun _ _ h' => h'.elim)))
  cases r with
  | none => exact wpAny_pure h₁
  | some v =>
    refine wpAny_bind (wpAny_mono h₁ (fun _ s₁' h₁' => ?_) fun _ _ h' => h'.elim)
    refine wpAny_bind (wpAny_mono h₁' (fun _ s₂ h₂ => wpAny_bind (wpAny_mono h₂ (fun ok s₃ h₃ => ?_) fun _ _ h' => h'.elim)) fun _ _ h' => h'.elim)
    cases ok with
    | false => exact (wpAny_pure (And.intro rfl h₃))
    | true =>
      exact wpAny_bind (wpAny_bind (wpAny_mono h₃ (fun x s₄ h₄ => wpAny_bind (wpAny_mono h₄ (fun _ s₅ h₅ => wpAny_pure (wpAny_pure ⟨rfl, h₅⟩)) fun _ _ h' => h'.elim)) fun _ _ h' => h'.elim))
end

/-- the whole comprehension; W: the invariant by the turn, a measure, the items so far -/
def CompW (J : It) (g : TG) (tt : TT) (te : TE) (fin : List V → Hp → Prop) (σ₀ : St) (H₁ : Hp) : Prop :=
  ∃ W : Nat → Nat → List V → St → Hp → Prop, (∃ m, W 0 m [] σ₀ H₁) ∧ ∀ i m ys σ H, W i m ys σ H →
    (J.stop i H ∧ ys.length ≤ sizeLine ∧ fin ys H) ∨
    (J.go i H ∧ ∀ x H', J.yld i H x H' → g x σ H' fun σ2 H2 => tt σ2 H2 fun b H3 => if b = true then te σ2 H3 fun y H4 => ys.length < sizeLine ∧ ∃ m', m' < m ∧ W (i + 1) m' (ys ++ [y]) σ2 H4 else ∃ m', m' < m ∧ W (i + 1) m' ys σ2 H3)
/-- the block's names at its start: its own, then what it takes from around -/
def capS (nt : Nat) (cap : List Nat) (σ : St) : St := List.replicate nt none ++ cap.map fun j => (σ[j]?).getD none

structure CompSc (X : Cx) (N' : List Str) (nt : Nat) (cap : List Nat) (scope : Scope) : Prop where
  kind : scope.kind = .function
  nocell : ∀ y ∈ scope.names, y.2 ≠ .cell
  names : ∀ x ∈ scope.names, x.2 = .local → scope.names.lookup x.1 = some .local
  free : ∀ y ∈ scope.names, y.2 = .free → X.env.kindOf y.1 = some .cell ∨ X.env.kindOf y.1 = some .free
  len : N'.length = nt + cap.length
  caps : ∀ (j : Nat) (x : Str), N'[nt + j]? = some x → ∃ i, cap[j]? = some i ∧ X.N[i]? = some x ∧ scope.names.lookup x = some .free

theorem list_obj_append {l : Addr} {its : List Value} {n : Nat} {u : Value} {P : Program} {w : World} {A : Around} {E : Value → Shared → Prop} {s : Shared} {Q : Value → Shared → Prop}
    (e : s.heap.get? l = some { cls := .type "list", data := .seq its.toArray n }) (hz : its.length < sizeLine)
    (h : ∀ h' n', h'.get? l = some { cls := .type "list", data := .seq (its ++ [u]).toArray n' } → (∀ b o, b ≠ l → s.heap.get? b = some o → h'.get? b = some o) → Q .none { s with heap := h' }) :
    wpAny (model P w) A (call (.builtin "list.append") [.ref l, u]) Q E s := by
  refine call_meets F.slot_list_append ⟨_, e, rfl⟩ F.entry_list_append (F.args_list_append_2 _ _) (PySem.list_append l its.toArray n u (by rw [List.size_toArray]; omega)) ⟨e, ?_⟩
  have q := PySem.IsL.update e (·.push u)
  rw [List.push_toArray] at q
  exact h _ _ q (fun b o hb hu => (Heap.get?_update_other s.heap _ (Ne.symm hb)).trans hu)

/-- the state of the block, at its start -/
theorem inv_comp {X : Cx} {pins : List (Addr × Obj)} {σ : St} {H : Hp} {s : Shared} {N' : List Str} {nt : Nat} {cap : List Nat} {scope : Scope} {cl : List (Str × Addr)} {fp : List Addr} {h' : Heap} {C : Addr} {tk : Nat} {pl : List (Addr × Obj)}
    (S : CompSc X N' nt cap scope) (I : Inv X pins σ H s) (hcl : ∀ x c, cl.lookup x = some c → X.env.cells.lookup x = some c) (hclh : ∀ y ∈ scope.names, y.2 = .free → ∃ c, cl.lookup y.1 = some c)
    (hf : ∀ b ∈ fp, FpOk X pins H b) (hfl : ∀ b ∈ fp, b < s.heap.objs.size) (hC : s.heap.objs.size < C) (hn : h'.Ns C fun _ => none) (hk : ∀ b o, s.heap.get? b = some o → h'.get? b = some o)
    (hp : ∀ p ∈ pl, h'.get? p.1 = some p.2 ∧ s.heap.objs.size = p.1 ∧ ∀ v, p.2.data ≠ .cell v) :
    Inv (cxComp X N' scope cl pins s H C fp) pl (capS nt cap σ) H { s with heap := h', toks := tk } := by
  have hok : (cxComp X N' scope cl pins s H C fp).Ok := by
    refine ⟨I.ok.mod, S.kind, I.ok.glob, I.ok.blt, Nat.le_of_lt hC, fun x y c e1 e2 => I.ok.inj x y c (hcl x c e1) (hcl y c e2), fun x hx => ?_, fun x c z => absurd (show false = true from z) (by decide), I.ok.hd, I.ok.frames, .inl rfl, fun b hb => ?_, I.bs, Nat.le_trans I.ok.bsz I.sz, fun b o e hb => ?_, fun b hb z => ?_, I.stack, I.stkFree⟩
    · have hx' : (relabel scope X.env).names.lookup x = some .cell ∨ (relabel scope X.env).names.lookup x = some .free := hx
      have hm : ∃ k, (x, k) ∈ (relabel scope X.env).names ∧ (k = .cell ∨ k = .free) := by
        rcases hx' with z | z
        · exact ⟨_, PySem.mem_of_lookup z, .inl rfl⟩
        · exact ⟨_, PySem.mem_of_lookup z, .inr rfl⟩
      obtain ⟨k, hm, hk⟩ := hm
      obtain ⟨⟨n, k0⟩, hm0, e⟩ := List.mem_map.mp hm
      have e' : (if (k0 == NameKind.free && X.env.scope.kind == .function && X.env.kindOf n == some .cell) = true then (n, NameKind.cell) else (n, k0)) = (x, k) := e
      by_cases hk0 : k0 = .free
      · subst hk0
        have en : n = x := by split at e' <;> exact congrArg Prod.fst e'
        subst en
        exact hclh (n, .free) hm0 rfl
      · have hb : (k0 == NameKind.free) = false := by simpa using hk0
        rw [hb] at e'
        simp only [Bool.false_and, Bool.false_eq_true, if_false] at e'
        cases e'
        rcases hk with rfl | rfl
        · exact absurd rfl (S.nocell _ hm0)
        · exact absurd rfl hk0
    · obtain ⟨f0, f1, f2, f3, f4, f5⟩ := hf b hb
      exact ⟨fun z => absurd (hfl b hb) (Nat.not_lt.mpr (by rw [show b = C from z]; exact Nat.le_of_lt hC)), fun x c e => f4 x c (hcl x c e)⟩
    · obtain ⟨f0, f1, f2, f3, f4, f5⟩ := hf b hb
      rcases f3 with q | q
      · exact I.ok.noex b o e q
      · exact absurd (Heap.lt_size (I.ok.bs b o e).1) (Nat.not_lt.mpr q)
    · obtain ⟨f0, f1, f2, f3, f4, f5⟩ := hf b hb
      rcases List.mem_cons.mp (I.stkSub b z) with q | q
      · exact f1 q
      · exact f2 q
  obtain ⟨m, hnm, hl⟩ := id I.loc
  refine ⟨hok, rfl, I.bare, Un.kept hk, ⟨_, hn, fun i x v e1 e2 e3 => ?_⟩, fun x c e => ?_, I.hok.fresh (Nat.le_of_lt hC), fun x c e => I.freeC x c (hcl x c e), fun p hp' => ?_, I.hok.kept hk, ?_⟩
  · -- a name of the block: one that it takes from around
    unfold capS at e2
    by_cases hi : i < nt
    · rw [List.getElem?_append_left (by simpa using hi), List.getElem?_replicate] at e2
      split at e2 <;> cases e2
    · obtain ⟨j, rfl⟩ : ∃ j, i = nt + j := ⟨i - nt, by omega⟩
      obtain ⟨k, ck, hN, hfree⟩ := S.caps j x e1
      rw [List.getElem?_append_right (by simp), List.length_replicate, Nat.add_sub_cancel_left, List.getElem?_map, ck] at e2
      have e2' : (σ[k]?).getD none = some v := Option.some.inj e2
      have e2'' : σ[k]? = some (some v) := by
        cases q : σ[k]? with
        | none => rw [q] at e2'; cases e2'
        | some z => rw [q] at e2'; exact congrArg some e2'
      have hkd := S.free (x, .free) (PySem.mem_of_lookup hfree) rfl
      obtain ⟨u, ru, lk⟩ := hl k x v hN e2'' (.inr hkd)
      refine ⟨u, ru, .inr ⟨lookup_relabel_free hfree, ?_⟩⟩
      rcases lk with ⟨kl, _⟩ | ⟨_, c, hc, hcell⟩
      · rcases hkd with z | z <;> (rw [kl] at z; cases z)
      · obtain ⟨c', hc'⟩ := hclh (x, .free) (PySem.mem_of_lookup hfree) rfl
        have e := hcl x c' hc'
        rw [hc] at e; cases e
        obtain ⟨o, ho, hd⟩ := hcell
        exact ⟨c, hc', o, hk _ _ ho, hd⟩
  · obtain ⟨v, o, ho, hd⟩ := I.cell x c (hcl x c e)
    exact ⟨v, o, hk _ _ ho, hd⟩
  · rcases List.mem_append.mp hp' with z | z
    · obtain ⟨e, n, n1, n2, d⟩ := I.pin p z
      refine ⟨hk _ _ e, n, fun q => ?_, fun q => ?_, d⟩
      · exact absurd (Heap.lt_size e) (Nat.not_lt.mpr (by rw [show p.1 = C from q]; exact Nat.le_of_lt hC))
      · rcases List.mem_cons.mp (I.stkSub p.1 q) with q | q
        · exact n1 q
        · exact n2 q
    · obtain ⟨e, n, d⟩ := hp p z
      refine ⟨e, I.hok.fresh (by omega), fun q => ?_, fun q => ?_, d⟩
      · exact absurd (n.trans (show p.1 = C from q)) (Nat.ne_of_lt hC)
      · have := I.stkSub p.1 q
        rcases List.mem_cons.mp this with q | q
        · exact absurd I.lt (Nat.not_lt.mpr (by rw [← q, n]; exact Nat.le_refl _))
        · exact I.nofs (by omega) q
  · unfold capS
    show _ = N'.length
    rw [List.length_append, List.length_replicate, List.length_map, S.len]

/-- a new list that was kept apart (pinned) is tracked -/
theorem HOk.track {P : Program} {w : World} {H : Hp} {h h' : Heap} {a C : Addr} {o : HO} (x : HOk P w H h) (hn : H a = none) (hC : H C = none) (k : ∀ b u, b ≠ C → h.get? b = some u → h'.get? b = some u) (new : ObjOk P w (upd H a o) h' a o) : HOk P w (upd H a o) h' := fun b u e => by
  by_cases hb : b = a
  · subst hb; rw [upd_same] at e; cases e; exact new
  · rw [upd_ne hb] at e
    have nC : ∀ c z, H c = some z → c ≠ C := fun c z q r => by rw [r, hC] at q; cases q
    refine (x b u e).stay (fun c v hc q => k c v ?_ q) (fun c q => by rw [upd_ne (ne_of_none q hn)]; exact q) fun c xs q => by rw [upd_ne (ne_of_none q hn)]; exact q
    rcases hc with rfl | hc
    · exact nC c u e
    · exact nC c _ hc

theorem comp_run {X : Cx} {pins : List (Addr × Obj)} {σ : St} {H₂ : Hp} {s₂ : Shared} {N' : List Str} {nt : Nat} {cap : List Nat} {scope : Scope} {cl : List (Str × Addr)} {elt tg iter : Expr} {ifs : List Expr} {pos : Pos} {g : TG} {tt : TT} {te : TE}
    {it : Addr} {fp : List Addr} {tn : Nat → Heap → Prop} {J : It} {fin : List V → Hp → Prop} {E : Value → Shared → Prop} {RR : Value → Addr → Result → Shared → Prop}
    (hc : X.calm = true) (S : CompSc X N' nt cap scope) (hcl : ∀ x c, cl.lookup x = some c → X.env.cells.lookup x = some c) (hclh : ∀ y ∈ scope.names, y.2 = .free → ∃ c, cl.lookup y.1 = some c)
    (hX : ∀ cl pins s H C fp, PG (cxComp X N' scope cl pins s H C fp) tg g ∧ PIf (cxComp X N' scope cl pins s H C fp) ifs tt ∧ PE (cxComp X N' scope cl pins s H C fp) elt te)
    (I : Inv X pins σ H₂ s₂) (T : Turn X.prog X.w X.K tg J fp it tn) (st : tn 0 s₂.heap) (hf : ∀ b ∈ fp, FpOk X pins H₂ b) (hw : CompW J g tt te fin (capS nt cap σ) H₂)
    (hRR : ∀ (D C : Addr) (s₄ : Shared) (m : Str → Option Value) (ys : List V) (H' : Hp), s₄.heap.Ns C m → s₂.heap.objs.size ≤ D → s₂.heap.objs.size ≤ C → C ≠ D → H' D = none → H' C = none → ys.length ≤ sizeLine → fin ys H' →
      (∀ h', (∀ b o, b ≠ C → s₄.heap.get? b = some o → h'.get? b = some o) → Inv X pins σ (upd H' D (.lst ys)) { s₄ with heap := h' }) → RR (.ref D) C (.ok .next) s₄) :
    wpAny (model X.prog X.w) X.A (newList []) (fun acc s₃ => wpAny (model X.prog X.w) X.A (newFunctionEnv scope X.env.globals cl [] X.env.qual none .none (some X.env)) (fun cenv s₄ =>
      codeAny (model X.prog X.w) X.A (.compStart (.ListComp elt [⟨tg, iter, ifs, 0⟩] scope pos) 0 (.ref it) acc { cenv with scope := relabel scope X.env }) (RR acc cenv.locals) s₄) E s₃) E s₂ := by
  refine wpAny_newObj_type (wpAny_newFunctionEnv S.nocell (by intro y hy; simp at hy) (fun h₁ hns₁ hsb₁ => ?_) S.kind)
  dsimp only at hns₁ hsb₁ ⊢
  generalize hH2 : s₂.heap.push { cls := .type "list", dict := none, data := .seq ([] : List Value).toArray } = B at hns₁ hsb₁ ⊢
  generalize hD : s₂.heap.objs.size = D at hns₁ hsb₁ ⊢
  have hB : B.objs.size = D + 1 := by rw [← hH2, Heap.size_push, hD]
  generalize hCe : B.objs.size = C at hns₁ hsb₁ ⊢
  have hCD : C = D + 1 := hCe.symm.trans hB
  have hDC : D ≠ C := by rw [hCD]; exact Nat.ne_of_lt (Nat.lt_succ_self _)
  have hDlt : s₂.heap.objs.size < C := by rw [hD, hCD]; exact Nat.lt_succ_self _
  have below : ∀ b o, s₂.heap.get? b = some o → b ≠ C ∧ b ≠ D := fun b o e => by
    have := Heap.lt_size e
    rw [hD] at this
    exact ⟨by rw [hCD]; exact Nat.ne_of_lt (Nat.lt_succ_of_lt this), Nat.ne_of_lt this⟩
  have old : ∀ b o, s₂.heap.get? b = some o → h₁.get? b = some o := fun b o e => hsb₁.extBut b o (below b o e).1 (Heap.get?_push_of_some _ (hH2 ▸ Heap.get?_push_of_some _ e))
  have hacc : h₁.get? D = some { cls := .type "list", data := .seq ([] : List Value).toArray 0 } := hsb₁.extBut _ _ hDC (Heap.get?_push_of_some _ (hH2 ▸ hD ▸ Heap.get?_push_size _ rfl))
  have hst₁ : tn 0 h₁ := T.keep _ _ _ st fun b hb o e => old b o e
  have hfl : ∀ b ∈ fp, b < s₂.heap.objs.size := fun b hb => by obtain ⟨o, e, _⟩ := T.obj _ _ st b hb; exact Heap.lt_size e
  obtain ⟨W, ⟨m0, w0⟩, turn⟩ := hw
  obtain ⟨hg, hi, he⟩ := hX cl pins s₂ H₂ C fp
  have stat : ∀ {H' : Hp} {k : Nat} {its : List Value}, (∀ b ∈ fp, H' b = none) → ∀ b ∈ fp, FpOk (cxComp X N' scope cl pins s₂ H₂ C fp) [(D, { cls := .type "list", data := .seq its.toArray k })] H' b := fun {H' k its} hn b hb => by
    obtain ⟨f0, f1, f2, f3, f4, f5⟩ := hf b hb
    have hlt := hfl b hb
    refine ⟨hn b hb, fun z => ?_, fun z => ?_, .inl hb, fun x c e => f4 x c (hcl x c e), fun p hp => ?_⟩
    · rw [show b = C from z] at hlt; exact absurd hlt (Nat.not_lt.mpr (Nat.le_of_lt hDlt))
    · rcases List.mem_cons.mp (I.stkSub b z) with q | q
      · exact f1 q
      · exact f2 q
    · rcases List.mem_append.mp hp with z | z
      · exact f5 p z
      · rw [List.mem_singleton.mp z]
        intro e
        rw [← (show D = b from e), hD] at hlt
        exact Nat.lt_irrefl _ hlt
  have loop : ∀ s₃ : Shared, s₃ = { s₂ with heap := h₁, toks := s₂.toks + ([] : List (Str × Value)).length } → codeAny (model X.prog X.w) X.A (.compLoop (.ListComp elt [⟨tg, iter, ifs, 0⟩] scope pos) 0 (.ref it) (.ref D) (compEnvC scope cl C X.env)) (RR (.ref D) C) s₃ := by
    rintro s₃ rfl
    refine compLoop_gen (fun n s' => ∃ i ys its k σ' H', Inv (cxComp X N' scope cl pins s₂ H₂ C fp) [(D, { cls := .type "list", data := .seq its.toArray k })] σ' H' s' ∧ Vals ys its ∧ tn i s'.heap ∧ (∀ b ∈ fp, H' b = none) ∧ W i n ys σ' H' ∧ ys.length ≤ sizeLine) ?_ m0
      ⟨0, [], [], 0, capS nt cap σ, H₂, inv_comp S I hcl hclh hf hfl hDlt (by simpa using hns₁) old (fun p hp => ?_), .nil, hst₁, fun b hb => (hf b hb).1, w0, Nat.zero_le _⟩
    · rintro n s3 ⟨i, ys, its, k, σ3, H3, I3, rv, st3, fr3, w3, hz⟩
      have pD := I3.pin (D, { cls := .type "list", data := .seq its.toArray k }) (List.mem_append_right _ (List.mem_singleton.mpr rfl))
      rcases turn i n ys σ3 H3 w3 with ⟨stop, hz', hfin⟩ | ⟨go, step⟩
      · refine thn (T.done (cxComp X N' scope cl pins s₂ H₂ C fp) rfl rfl rfl hc i _ s3 σ3 H3 (fun _ _ => False) I3 (stat fr3) st3 stop) fun r s4 ⟨hr, I4⟩ => ?_
        subst hr
        obtain ⟨m4, hn4, _⟩ := I4.loc
        have pD4 := I4.pin (D, { cls := .type "list", data := .seq its.toArray k }) (List.mem_append_right _ (List.mem_singleton.mpr rfl))
        refine hRR D C s4 m4 ys H3 hn4 (by rw [hD]; exact Nat.le_refl _) (Nat.le_of_lt hDlt) (Ne.symm hDC) pD4.2.1 I4.free hz' hfin fun h' k' => ?_
        have nD : ∀ b u, H3 b = some u → b ≠ D := fun b u e z => by rw [z, pD4.2.1] at e; cases e
        have nDs : ∀ b o, s₂.heap.get? b = some o → b ≠ D ∧ b ≠ C := fun b o e => ⟨(below b o e).2, (below b o e).1⟩
        have B4 := I4.base
        refine I.call' (s' := { s4 with heap := h' }) (ch := fp) I4.os ⟨fun b o e n hb hx => k' b o (nDs b o e).2 (B4.keep b o e n hb hx), fun b o e n hb hx => ?_, fun b o e n hx => ?_, fun b o e hx => ?_, fun b xs e => ?_, fun b o u e => ?_, fun b ps e => ?_⟩ ?_ I4.bare fun b hb => ?_
        · obtain ⟨sl, q⟩ := B4.slot b o e n hb hx
          exact ⟨sl, k' b _ (nDs b o e).2 q⟩
        · rw [upd_ne (nDs b o e).1]; exact B4.free b o e n hx
        · obtain ⟨o', q⟩ := B4.there b o e hx
          exact ⟨o', k' b _ (nDs b o e).2 q⟩
        · have q := B4.tups b xs e
          rw [upd_ne (nD _ _ q)]; exact q
        · have q := B4.frzs b o u e
          rw [upd_ne (nD _ _ q)]; exact q
        · obtain ⟨more, q⟩ := B4.tbls b ps e
          exact ⟨more, by rw [upd_ne (nD _ _ q)]; exact q⟩
        · exact I4.hok.track pD4.2.1 I4.free k' ⟨hz', its, k, rv, k' D _ hDC pD4.1⟩
        · obtain ⟨f0, f1, f2, f3, f4, f5⟩ := hf b hb
          exact ⟨f3, f1, f4, f5⟩
      · refine thn (T.item (cxComp X N' scope cl pins s₂ H₂ C fp) rfl rfl rfl hc i _ s3 σ3 H3 (fun _ _ => False) I3 (stat fr3) st3 go) fun r s4 ⟨u, hr, h4⟩ => ?_
        subst hr
        refine thn h4 fun _ s5 ⟨x, H5, I5, r5, y5, st5, fr5⟩ => ?_
        have I5' := I5.pinned (stat fr5) (T.obj _ _ st5)
        refine thn (hg _ s5 σ3 H5 x u _ I5' r5 (step x H5 y5)) fun _ s6 ⟨σ6, H6, I6, q6⟩ => ?_
        refine thn (hi _ s6 σ6 H6 _ I6 q6) fun ok s7 ⟨H7, I7, q7⟩ => ?_
        have back : ∀ {σ8 : St} {H8 : Hp} {s8 : Shared}, Inv (cxComp X N' scope cl pins s₂ H₂ C fp) ([(D, { cls := .type "list", data := .seq its.toArray k })] ++ pinsAt fp s5.heap) σ8 H8 s8 → tn (i + 1) s8.heap ∧ ∀ b ∈ fp, H8 b = none := fun {σ8 H8 s8} I8 =>
          ⟨T.keep _ _ _ st5 fun b hb o e => (I8.pin (b, o) (List.mem_append_right _ (List.mem_append_right _ (mem_pinsAt hb e)))).1, fun b hb => by
            obtain ⟨o, e, d⟩ := T.obj _ _ st5 b hb
            exact (I8.pin (b, o) (List.mem_append_right _ (List.mem_append_right _ (mem_pinsAt hb e)))).2.1⟩
        cases ok with
        | false =>
          rw [if_neg Bool.false_ne_true] at q7 ⊢
          obtain ⟨m', hm, w7⟩ := q7
          exact ⟨m', hm, i + 1, ys, its, k, σ6, H7, I7.unpinned, rv, (back I7).1, (back I7).2, w7, hz⟩
        | true =>
          rw [if_pos rfl] at q7 ⊢
          refine thn (he _ s7 σ6 H7 _ I7 q7) fun uy s8 ⟨y, H8, I8, ry, hz8, m', hm, w8⟩ => ?_
          have pD8 := I8.pin (D, { cls := .type "list", data := .seq its.toArray k }) (List.mem_append_right _ (List.mem_append_left _ (List.mem_singleton.mpr rfl)))
          have hl := rv.length
          refine list_obj_append pD8.1 (by omega) fun h' k' e' kk => ?_
          have I9 : Inv (cxComp X N' scope cl pins s₂ H₂ C fp) [] σ6 H8 { s8 with heap := h' } := by
            refine Inv.turned (t' := s8.toks) (it := D) (I8.pins_of (pins' := []) (fun p hp => nomatch hp)) (fun b o hb e => kk b o hb e) pD8.2.1 pD8.2.2.1 (.inr (by show s₂.heap.objs.size ≤ D; rw [hD]; exact Nat.le_refl _)) (fun x c e z => ?_) (fun p hp z => ?_)
            · obtain ⟨v, q⟩ := I.cell x c (hcl x c e)
              have := q.lt
              rw [z, hD] at this
              exact Nat.lt_irrefl _ this
            · rw [List.append_nil] at hp
              have := Heap.lt_size (I.pin p hp).1
              rw [z, hD] at this
              exact Nat.lt_irrefl _ this
          refine ⟨m', hm, i + 1, ys ++ [y], its ++ [uy], k', σ6, H8, I9.pins_of fun p hp => ?_, rv.append (.cons ry .nil), ?_, (back I8).2, w8, ?_⟩
          · rw [List.mem_singleton.mp hp]
            exact ⟨e', pD8.2.1, pD8.2.2.1, pD8.2.2.2.1, fun v z => by cases z⟩
          · refine T.keep _ _ _ (back I8).1 fun b hb o e => kk b o (fun z => ?_) e
            have := hfl b hb
            rw [z, hD] at this
            exact Nat.lt_irrefl _ this
          · rw [List.length_append, List.length_singleton]; omega
    · rw [List.mem_singleton.mp hp]
      exact ⟨hacc, hD, fun v z => by cases z⟩
  exact codeAny_compStart_list (loop _ rfl) (T.self _ 0 _ _ _ hst₁ (loop _ rfl))

/-- [elt for tg in iter if ..]; nt, cap: the block's own names, what it takes from around (places in X.N) -/
def tComp (wi : TI) (g : TG) (tt : TT) (te : TE) (nt : Nat) (cap : List Nat) : TE := fun σ H Q => wi σ H fun J H1 => CompW J g tt te (fun ys H' => ∀ p, H' p = none → Q (.ref p) (upd H' p (.lst ys))) (capS nt cap σ) H1
theorem pe_comp {X : Cx} {N' : List Str} {nt : Nat} {cap : List Nat} {scope : Scope} {elt tg iter : Expr} {ifs : List Expr} {pos : Pos} {wi : TI} {g : TG} {tt : TT} {te : TE} (hc : X.calm = true) (S : CompSc X N' nt cap scope) (hi : PI X tg iter wi)
    (hX : ∀ cl pins s H C fp, PG (cxComp X N' scope cl pins s H C fp) tg g ∧ PIf (cxComp X N' scope cl pins s H C fp) ifs tt ∧ PE (cxComp X N' scope cl pins s H C fp) elt te)
    (hs : ∀ x, foldedSetIterable iter X.env x = pure x := by intro _; rfl) : PE X (.ListComp elt [⟨tg, iter, ifs, 0⟩] scope pos) (tComp wi g tt te nt cap) := by
  intro pins s σ H Q I h
  rw [eval_ListComp]
  obtain ⟨cl, hclos, hcl, hclh⟩ := closure_ok (scope := scope) (env := X.env) fun y hy hf => I.ok.has y.1 (S.free y hy hf)
  refine wpAny_comprehension_free (use := none) rfl hs hclos S.kind S.names (thn (hi pins s σ H _ I h) fun v s1 h1 => thn h1 fun itv s2 h2 => ?_)
  obtain ⟨it, fp, tn, J, H2, rfl, I2, T, st2, f2, hw⟩ := h2
  refine comp_run (RR := fun acc C => compPost (model X.prog X.w) X.A X.xe none (EP X pins σ Q) acc C) hc S hcl hclh hX I2 T st2 f2 hw fun D C s4 m ys H' hn hD hC hDC nD nC hz hfin k => ?_
  refine ⟨m, hn, fun h' hs' => ?_⟩
  exact ⟨.ref D, _, k h' fun b o hb e => hs'.extBut b o hb e, rfl, hfin D nD⟩
/-- x = [elt for ..] -/
def tSetComp (wi : TI) (g : TG) (tt : TT) (te : TE) (nt : Nat) (cap : List Nat) (i : Nat) : TS := fun D σ H => wi σ H fun J H1 => CompW J g tt te (fun ys H' => ∀ p, H' p = none → D.nx (σ.set i (some (.ref p))) (upd H' p (.lst ys))) (capS nt cap σ) H1
theorem ps_setC {X : Cx} {N' : List Str} {nt : Nat} {cap : List Nat} {scope : Scope} {elt tg iter : Expr} {ifs : List Expr} {pos pos' spos : Pos} {wi : TI} {g : TG} {tt : TT} {te : TE} {i : Nat} {x : Str} (hc : X.calm = true) (hN : X.N.Nodup) (hi' : X.N[i]? = some x) (hx : Loc X.env.scope x) (S : CompSc X N' nt cap scope) (hi : PI X tg iter wi)
    (hX : ∀ cl pins s H C fp, PG (cxComp X N' scope cl pins s H C fp) tg g ∧ PIf (cxComp X N' scope cl pins s H C fp) ifs tt ∧ PE (cxComp X N' scope cl pins s H C fp) elt te)
    (hsw : swapsWith (.ListComp elt [⟨tg, iter, ifs, 0⟩] scope pos) (some (.Name x pos')) spos.line X.env = pure true := by rfl)
    (hs : ∀ x, foldedSetIterable iter X.env x = pure x := by intro _; rfl) (hf : X.fn x = true ∨ X.env.scope.names.lookup x = some .local := by first | exact .inl rfl | exact .inr rfl | assumption) :
    PS X (.Assign [.Name x pos'] (.ListComp elt [⟨tg, iter, ifs, 0⟩] scope pos) spos) (tSetComp wi g tt te nt cap i) := by
  intro pins s σ H Dn I h
  rw [exec_Assign_Name_used _ _ _ _ hsw]
  obtain ⟨cl, hclos, hcl, hclh⟩ := closure_ok (scope := scope) (env := X.env) fun y hy hf => I.ok.has y.1 (S.free y hy hf)
  refine wpAny_bind (wpAny_standAt (wpAny_bind ?_))
  show wpAny _ X.A (do let _ ← comprehension (.ListComp elt [⟨tg, iter, ifs, 0⟩] scope pos) scope X.env _ (newList []) false (eval iter X.env) (some (assign (.Name x pos') X.env))) _ _ s
  refine wpAny_bind (wpAny_mono (wpAny_comprehension_free (use := some (assign (.Name x pos') X.env)) (Q := fun _ s' => SP X pins Dn .next s') rfl hs hclos S.kind S.names
    (thn (hi pins s σ H _ I h) fun v s1 h1 => thn h1 fun itv s2 h2 => ?_)) (fun _ s' hq => wpAny_pure (wpAny_pure hq)) fun _ _ e => e)
  obtain ⟨it, fp, tn, J, H2, rfl, I2, T, st2, f2, hw⟩ := h2
  refine comp_run (RR := fun acc C => compPost (model X.prog X.w) X.A X.xe (some (assign (.Name x pos') X.env)) (fun _ s' => SP X pins Dn .next s') acc C) hc S hcl hclh hX I2 T st2 f2 hw fun D C s4 m ys H' hn hD hC hDC nD nC hz hfin k => ?_
  show wpAny _ X.A (assign (.Name x pos') X.env (.ref D)) _ _ s4
  have I4 := k s4.heap fun b o _ e => e
  have nCL : C ≠ X.env.locals := fun z => by have := I2.lt; rw [← z] at this; exact absurd this (Nat.not_lt.mpr hC)
  have nCc : ∀ y c, X.env.cells.lookup y = some c → c ≠ C := fun y c e z => by
    obtain ⟨v, q⟩ := I2.cell y c e
    have := q.lt
    rw [z] at this
    exact absurd this (Nat.not_lt.mpr hC)
  refine wpAny_assign_Name (store_ok2 I4 hN hi' hx (show RelV (.ref D) (.ref D) from rfl) (fun s5 I5 ⟨a, sb, ha⟩ => ?_) hf)
  have nCa : C ≠ a := by
    rcases ha with rfl | ha
    · exact nCL
    · exact fun z => nCc x a ha z.symm
  refine ⟨m, hn.sameBut sb nCa, fun h' hs' => ⟨_, _, Inv.turned (t' := s5.toks) (it := C) I5 (fun b o hb e => hs'.extBut b o hb e) (by rw [upd_ne hDC]; exact nC) nCL (.inr (Nat.le_trans I2.sz hC)) nCc (fun p hp z => ?_), hfin D nD⟩⟩
  have := Heap.lt_size (I2.pin p hp).1
  rw [z] at this
  exact absurd this (Nat.not_lt.mpr hC)
end L2

set_option Elab.async false
set_option linter.all false
set_option maxRecDepth 100000
set_option maxHeartbeats 1000000
namespace L3
open PySem PySem.Spec PyProof.Rows L2

/-! ### trees: tuples are values -/
inductive T where
  | non | bl (b : Bool) | int (i : Int) | str (x : Str) | tup (ts : List T) | ref (a : Addr) | ty (n : String)

mutual
def Rep (K : PySem.W.Frag) (H : Hp) : T → V → Prop
  | .non, v => v = .non
  | .bl b, v => v = .bl b
  | .int i, v => v = .int i
  | .str x, v => v = .str x
  | .tup ts, v => ∃ a xs, v = .ref a ∧ SqT K H a xs ∧ Reps K H ts xs
  | .ref a, v => v = .ref a
  | .ty n, v => v = .ty n
def Reps (K : PySem.W.Frag) (H : Hp) : List T → List V → Prop
  | [], xs => xs = []
  | t :: ts, xs => ∃ x r, xs = x :: r ∧ Rep K H t x ∧ Reps K H ts r
end
/-- tuples stay -/
def TupLe (K : PySem.W.Frag) (H H' : Hp) : Prop := ∀ a xs, SqT K H a xs → SqT K H' a xs
theorem TupLe.refl {K : PySem.W.Frag} {H : Hp} : TupLe K H H := fun _ _ h => h
theorem TupLe.trans {K : PySem.W.Frag} {H H1 H2 : Hp} (a : TupLe K H H1) (b : TupLe K H1 H2) : TupLe K H H2 := fun c xs h => b c xs (a c xs h)
mutual
theorem Rep.mono {K : PySem.W.Frag} {H H' : Hp} (le : TupLe K H H') : ∀ {t : T} {v : V}, Rep K H t v → Rep K H' t v
  | .non, _, h => by simp only [Rep] at h ⊢; exact h
  | .bl _, _, h => by simp only [Rep] at h ⊢; exact h
  | .int _, _, h => by simp only [Rep] at h ⊢; exact h
  | .str _, _, h => by simp only [Rep] at h ⊢; exact h
  | .ref _, _, h => by simp only [Rep] at h ⊢; exact h
  | .ty _, _, h => by simp only [Rep] at h ⊢; exact h
  | .tup ts, _, h => by
    simp only [Rep] at h ⊢
    obtain ⟨a, xs, e, s, r⟩ := h
    exact ⟨a, xs, e, le a xs s, Reps.mono le r⟩
theorem Reps.mono {K : PySem.W.Frag} {H H' : Hp} (le : TupLe K H H') : ∀ {ts : List T} {xs : List V}, Reps K H ts xs → Reps K H' ts xs
  | [], _, h => by simp only [Reps] at h ⊢; exact h
  | t :: ts, _, h => by
    simp only [Reps] at h ⊢
    obtain ⟨x, r, e, a, b⟩ := h
    exact ⟨x, r, e, Rep.mono le a, Reps.mono le b⟩
end
section
variable {K : PySem.W.Frag} {H : Hp}
theorem Reps.nil : Reps K H [] [] := by simp only [Reps]
theorem Reps.cons {t : T} {v : V} {ts : List T} {vs : List V} (a : Rep K H t v) (b : Reps K H ts vs) : Reps K H (t :: ts) (v :: vs) := by simp only [Reps]; exact ⟨v, vs, rfl, a, b⟩
theorem Reps.inv {t : T} {ts : List T} {vs : List V} (h : Reps K H (t :: ts) vs) : ∃ v r, vs = v :: r ∧ Rep K H t v ∧ Reps K H ts r := by simp only [Reps] at h; exact h
theorem Reps.inv0 {vs : List V} (h : Reps K H [] vs) : vs = [] := by simp only [Reps] at h; exact h
theorem Reps.length : ∀ {ts : List T} {vs : List V}, Reps K H ts vs → ts.length = vs.length
  | [], _, h => by rw [h.inv0]; rfl
  | t :: ts, _, h => by obtain ⟨v, r, rfl, _, b⟩ := h.inv; simp [Reps.length b]
theorem Reps.get : ∀ {ts : List T} {vs : List V} {i : Nat} {t : T}, Reps K H ts vs → ts[i]? = some t → ∃ v, vs[i]? = some v ∧ Rep K H t v
  | [], _, _, _, _, e => by simp at e
  | a :: ts, _, 0, t, h, e => by obtain ⟨v, r, rfl, q, _⟩ := h.inv; simp at e; subst e; exact ⟨v, rfl, q⟩
  | a :: ts, _, i + 1, t, h, e => by obtain ⟨v, r, rfl, _, b⟩ := h.inv; simpa using Reps.get b (by simpa using e)
theorem Reps.get' : ∀ {ts : List T} {vs : List V} {i : Nat} {v : V}, Reps K H ts vs → vs[i]? = some v → ∃ t, ts[i]? = some t ∧ Rep K H t v
  | [], _, _, _, h, e => by rw [h.inv0] at e; simp at e
  | a :: ts, _, 0, v, h, e => by obtain ⟨x, r, rfl, q, _⟩ := h.inv; simp at e; subst e; exact ⟨a, rfl, q⟩
  | a :: ts, _, i + 1, v, h, e => by obtain ⟨x, r, rfl, _, b⟩ := h.inv; simpa using Reps.get' b (by simpa using e)
theorem Reps.append : ∀ {ts us : List T} {xs ys : List V}, Reps K H ts xs → Reps K H us ys → Reps K H (ts ++ us) (xs ++ ys)
  | [], _, _, _, h, h' => by rw [h.inv0]; exact h'
  | t :: ts, _, _, _, h, h' => by obtain ⟨v, r, rfl, a, b⟩ := h.inv; exact .cons a (Reps.append b h')
theorem Reps.take : ∀ {ts : List T} {xs : List V} (n : Nat), Reps K H ts xs → Reps K H (ts.take n) (xs.take n)
  | [], _, n, h => by rw [h.inv0]; simp only [List.take_nil]; exact .nil
  | t :: ts, _, 0, h => .nil
  | t :: ts, _, n + 1, h => by obtain ⟨v, r, rfl, a, b⟩ := h.inv; exact .cons a (Reps.take n b)
theorem Reps.drop : ∀ {ts : List T} {xs : List V} (n : Nat), Reps K H ts xs → Reps K H (ts.drop n) (xs.drop n)
  | [], _, n, h => by rw [h.inv0]; simp only [List.drop_nil]; exact .nil
  | t :: ts, _, 0, h => h
  | t :: ts, _, n + 1, h => by obtain ⟨v, r, rfl, a, b⟩ := h.inv; exact Reps.drop n b
theorem Reps.set : ∀ {ts : List T} {xs : List V} {t : T} {v : V} (n : Nat), Reps K H ts xs → Rep K H t v → Reps K H (ts.set n t) (xs.set n v)
  | [], _, _, _, n, h, r => by rw [h.inv0]; exact .nil
  | t :: ts, _, _, _, 0, h, q => by obtain ⟨v, r, rfl, a, b⟩ := h.inv; exact .cons q b
  | t :: ts, _, _, _, n + 1, h, q => by obtain ⟨v, r, rfl, a, b⟩ := h.inv; exact .cons a (Reps.set n b q)
theorem Reps.reverse {ts : List T} {xs : List V} (h : Reps K H ts xs) : Reps K H ts.reverse xs.reverse := by
  induction ts generalizing xs with
  | nil => rw [h.inv0]; exact .nil
  | cons t ts ih => obtain ⟨v, r, rfl, a, b⟩ := h.inv; simp only [List.reverse_cons]; exact (ih b).append (.cons a .nil)
theorem Reps.eraseIdx : ∀ {ts : List T} {xs : List V} (n : Nat), Reps K H ts xs → Reps K H (ts.eraseIdx n) (xs.eraseIdx n)
  | [], _, n, h => by rw [h.inv0]; exact .nil
  | t :: ts, _, 0, h => by obtain ⟨v, r, rfl, a, b⟩ := h.inv; exact b
  | t :: ts, _, n + 1, h => by obtain ⟨v, r, rfl, a, b⟩ := h.inv; exact .cons a (Reps.eraseIdx n b)
theorem Rep.non {v : V} (h : Rep K H .non v) : v = .non := by simp only [Rep] at h; exact h
theorem Rep.bl {b : Bool} {v : V} (h : Rep K H (.bl b) v) : v = .bl b := by simp only [Rep] at h; exact h
theorem Rep.int {i : Int} {v : V} (h : Rep K H (.int i) v) : v = .int i := by simp only [Rep] at h; exact h
theorem Rep.str {x : Str} {v : V} (h : Rep K H (.str x) v) : v = .str x := by simp only [Rep] at h; exact h
theorem Rep.ref {a : Addr} {v : V} (h : Rep K H (.ref a) v) : v = .ref a := by simp only [Rep] at h; exact h
theorem Rep.ty {n : String} {v : V} (h : Rep K H (.ty n) v) : v = .ty n := by simp only [Rep] at h; exact h
theorem Rep.tup {ts : List T} {v : V} (h : Rep K H (.tup ts) v) : ∃ a xs, v = .ref a ∧ SqT K H a xs ∧ Reps K H ts xs := by simp only [Rep] at h; exact h
theorem Rep.ofNon : Rep K H .non .non := by simp only [Rep]
theorem Rep.ofBl {b : Bool} : Rep K H (.bl b) (.bl b) := by simp only [Rep]
theorem Rep.ofInt {i : Int} : Rep K H (.int i) (.int i) := by simp only [Rep]
theorem Rep.ofStr {x : Str} : Rep K H (.str x) (.str x) := by simp only [Rep]
theorem Rep.ofRef {a : Addr} : Rep K H (.ref a) (.ref a) := by simp only [Rep]
theorem Rep.ofTy {n : String} : Rep K H (.ty n) (.ty n) := by simp only [Rep]
theorem Rep.ofTup {ts : List T} {a : Addr} {xs : List V} (h : SqT K H a xs) (r : Reps K H ts xs) : Rep K H (.tup ts) (.ref a) := by simp only [Rep]; exact ⟨a, xs, rfl, h, r⟩
end

/-! ### the heap of what may change -/
inductive O3 where
  | lst (ts : List T) | rol (ts : List T) | dct (kvs : List (Str × T))
abbrev Hp3 := Addr → Option O3
def up3 (H : Hp3) (a : Addr) (o : O3) : Hp3 := fun b => if b = a then some o else H b
theorem up3_same {H : Hp3} {a : Addr} {o : O3} : up3 H a o a = some o := by unfold up3; rw [if_pos rfl]
theorem up3_ne {H : Hp3} {a b : Addr} {o : O3} (h : b ≠ a) : up3 H a o b = H b := by unfold up3; rw [if_neg h]
theorem up3_up3 {H : Hp3} {a : Addr} {o u : O3} : up3 (up3 H a o) a u = up3 H a u := by funext b; unfold up3; split <;> rfl
def RepD (K : PySem.W.Frag) (H : Hp) : List (Str × T) → List (Key × V) → Prop := Paired fun (p : Str × T) (q : Key × V) => q.1 = Sum.inr p.1 ∧ Rep K H p.2 q.2
def RepO (K : PySem.W.Frag) (H : Hp) (a : Addr) : O3 → Prop
  | .lst ts => ∃ xs, H a = some (.lst xs) ∧ Reps K H ts xs
  | .rol ts => ∃ xs, Rd H a (.lst xs) ∧ Reps K H ts xs
  | .dct kvs => ∃ vs, H a = some (.dK vs) ∧ RepD K H kvs vs
def SimH (K : PySem.W.Frag) (H3 : Hp3) (H : Hp) : Prop := ∀ a o, H3 a = some o → RepO K H a o
abbrev St3 := List (Option T)
structure SimS (K : PySem.W.Frag) (H : Hp) (σ3 : St3) (σ : L2.St) : Prop where
  len : σ3.length = σ.length
  at' : ∀ (i : Nat) (t : T), σ3[i]? = some (some t) → ∃ v, σ[i]? = some (some v) ∧ Rep K H t v
section
variable {K : PySem.W.Frag} {H H' : Hp} {H3 : Hp3} {σ3 : St3} {σ : L2.St}
theorem SimS.mono (s : SimS K H σ3 σ) (le : TupLe K H H') : SimS K H' σ3 σ := ⟨s.len, fun i t e => let ⟨v, e', r⟩ := s.at' i t e; ⟨v, e', r.mono le⟩⟩
theorem SimS.set (s : SimS K H σ3 σ) {i : Nat} {t : T} {v : V} (r : Rep K H t v) : SimS K H (σ3.set i (some t)) (σ.set i (some v)) := by
  refine ⟨by simp [s.len], fun j u e => ?_⟩
  by_cases hj : i = j
  · subst hj
    by_cases hl : i < σ3.length
    · rw [List.getElem?_set_self hl] at e
      have e' : t = u := Option.some.inj (Option.some.inj e)
      subst e'
      exact ⟨v, by rw [List.getElem?_set_self (by rw [← s.len]; exact hl)], r⟩
    · rw [List.getElem?_eq_none (by simpa using hl)] at e; cases e
  · rw [List.getElem?_set_ne hj] at e
    rw [List.getElem?_set_ne hj]
    exact s.at' j u e
theorem RepD.mono {kvs : List (Str × T)} {vs : List (Key × V)} (h : RepD K H kvs vs) (le : TupLe K H H') : RepD K H' kvs vs := Paired.mapP h fun _ _ ⟨a, b⟩ => ⟨a, b.mono le⟩
/-- two trees' objects of unlike kinds or contents stand apart -/
theorem ne3 {a b : Addr} {o u : O3} (h : H3 a = some o) (h' : H3 b = some u) (d : o ≠ u) : a ≠ b := by
  intro e; subst e; rw [h] at h'; exact d (Option.some.inj h')
theorem ne3n {a b : Addr} {o : O3} (h : H3 a = some o) (h' : H3 b = none) : a ≠ b := by
  intro e; subst e; rw [h] at h'; cases h'
/-- a new object in the heap below -/
theorem upd_tupLe {p : Addr} {o : HO} (hp : H p = none) : TupLe K H (upd H p o) := fun a xs h => by
  rcases h with (h | ⟨ob, h⟩) | h
  · exact .inl (.inl (by rw [upd_ne (ne_of_none h hp)]; exact h))
  · exact .inl (.inr ⟨ob, by rw [upd_ne (ne_of_none h hp)]; exact h⟩)
  · exact .inr h
theorem wr_tupLe {p : Addr} {o : HO} (hp : Mut (H p)) : TupLe K H (upd H p o) := fun a xs h => by
  have key : ∀ u, H a = some u → ¬ Mut (some u) → a ≠ p := fun u e nm z => by subst z; rw [e] at hp; exact nm hp
  rcases h with (h | ⟨ob, h⟩) | h
  · exact .inl (.inl (by rw [upd_ne (key _ h fun z => z)]; exact h))
  · exact .inl (.inr ⟨ob, by rw [upd_ne (key _ h fun z => z)]; exact h⟩)
  · exact .inr h
theorem RepO.stay {a : Addr} {o : O3} (h : RepO K H a o) (le : TupLe K H H') (keep : ∀ u, H a = some u → H' a = some u) : RepO K H' a o := by
  cases o with
  | lst ts => obtain ⟨xs, e, r⟩ := h; exact ⟨xs, keep _ e, r.mono le⟩
  | rol ts =>
    obtain ⟨xs, e, r⟩ := h
    refine ⟨xs, ?_, r.mono le⟩
    rcases e with e | ⟨ob, e⟩
    · exact .inl (keep _ e)
    · exact .inr ⟨ob, keep _ e⟩
  | dct kvs => obtain ⟨vs, e, r⟩ := h; exact ⟨vs, keep _ e, r.mono le⟩
/-- a new object below that is not looked at -/
theorem SimH.new {p : Addr} {o : HO} (s : SimH K H3 H) (hp : H p = none) : SimH K H3 (upd H p o) := fun a u e =>
  (s a u e).stay (upd_tupLe hp) fun w q => by rw [upd_ne (ne_of_none q hp)]; exact q
theorem SimH.fresh {p : Addr} (s : SimH K H3 H) (hp : H p = none) : H3 p = none := by
  cases e : H3 p with
  | none => rfl
  | some o =>
    have q := s p o e
    cases o with
    | lst ts => obtain ⟨xs, z, _⟩ := q; rw [hp] at z; cases z
    | dct ts => obtain ⟨xs, z, _⟩ := q; rw [hp] at z; cases z
    | rol ts =>
      obtain ⟨xs, z, _⟩ := q
      rcases z with z | ⟨ob, z⟩
      · rw [hp] at z; cases z
      · rw [hp] at z; cases z
end

/-! ### readings over trees -/
abbrev VK3 := T → Hp3 → Prop
abbrev TE3 := St3 → Hp3 → VK3 → Prop
abbrev TT3 := St3 → Hp3 → (Bool → Hp3 → Prop) → Prop
abbrev TA3 := St3 → Hp3 → (List T → Hp3 → Prop) → Prop
structure Ends3 where
  nx : St3 → Hp3 → Prop
  rt : VK3
  bk : St3 → Hp3 → Prop := fun _ _ => False
  ct : St3 → Hp3 → Prop := fun _ _ => False
abbrev TS3 := Ends3 → St3 → Hp3 → Prop
abbrev TG3 := T → St3 → Hp3 → (St3 → Hp3 → Prop) → Prop
abbrev TGs3 := List T → St3 → Hp3 → (St3 → Hp3 → Prop) → Prop
abbrev R3 := T → T → Hp3 → VK3 → Prop
section
variable (K : PySem.W.Frag)
/-- what a value's end is below -/
def KV3 (H : Hp) (Q3 : VK3) (Q : VK) : Prop := ∀ v H' t H3', TupLe K H H' → SimH K H3' H' → Rep K H' t v → Q3 t H3' → Q v H'
def KS3 (H : Hp) (N3 : St3 → Hp3 → Prop) (N : L2.St → Hp → Prop) : Prop := ∀ σ' H' σ3' H3', TupLe K H H' → SimS K H' σ3' σ' → SimH K H3' H' → N3 σ3' H3' → N σ' H'
def lft (t3 : TE3) : TE := fun σ H Q => ∃ σ3 H3 Q3, SimS K H σ3 σ ∧ SimH K H3 H ∧ t3 σ3 H3 Q3 ∧ KV3 K H Q3 Q
def lftT (t3 : TT3) : TT := fun σ H Q => ∃ σ3 H3 Q3, SimS K H σ3 σ ∧ SimH K H3 H ∧ t3 σ3 H3 Q3 ∧ ∀ b H' H3', TupLe K H H' → SimH K H3' H' → Q3 b H3' → Q b H'
def lftA (t3 : TA3) : TA := fun σ H Q => ∃ σ3 H3 Q3, SimS K H σ3 σ ∧ SimH K H3 H ∧ t3 σ3 H3 Q3 ∧ ∀ vs H' ts H3', TupLe K H H' → SimH K H3' H' → Reps K H' ts vs → Q3 ts H3' → Q vs H'
def lftS (t3 : TS3) : TS := fun D σ H => ∃ σ3 H3 D3, SimS K H σ3 σ ∧ SimH K H3 H ∧ t3 D3 σ3 H3 ∧ KS3 K H D3.nx D.nx ∧ KV3 K H D3.rt D.rt ∧ KS3 K H D3.bk D.bk ∧ KS3 K H D3.ct D.ct
def lftG (t3 : TG3) : TG := fun v σ H Q => ∃ t σ3 H3 Q3, Rep K H t v ∧ SimS K H σ3 σ ∧ SimH K H3 H ∧ t3 t σ3 H3 Q3 ∧ KS3 K H Q3 Q
def lftGs (t3 : TGs3) : TGs := fun vs σ H Q => ∃ ts σ3 H3 Q3, Reps K H ts vs ∧ SimS K H σ3 σ ∧ SimH K H3 H ∧ t3 ts σ3 H3 Q3 ∧ KS3 K H Q3 Q
def lftR (r3 : R3) : R2 := fun x y H Q => ∃ tx ty H3 Q3, Rep K H tx x ∧ Rep K H ty y ∧ SimH K H3 H ∧ r3 tx ty H3 Q3 ∧ KV3 K H Q3 Q
def lftU (r3 : T → Hp3 → VK3 → Prop) : V → Hp → VK → Prop := fun x H Q => ∃ tx H3 Q3, Rep K H tx x ∧ SimH K H3 H ∧ r3 tx H3 Q3 ∧ KV3 K H Q3 Q
def lftC (r3 : List T → Hp3 → VK3 → Prop) : List V → Hp → VK → Prop := fun xs H Q => ∃ ts H3 Q3, Reps K H ts xs ∧ SimH K H3 H ∧ r3 ts H3 Q3 ∧ KV3 K H Q3 Q
def lftM (r3 : T → List T → Hp3 → VK3 → Prop) : V → List V → Hp → VK → Prop := fun x xs H Q => ∃ tx ts H3 Q3, Rep K H tx x ∧ Reps K H ts xs ∧ SimH K H3 H ∧ r3 tx ts H3 Q3 ∧ KV3 K H Q3 Q
end
section
variable {K : PySem.W.Frag} {H H1 : Hp}
theorem KV3.at {Q3 : VK3} {Q : VK} (k : KV3 K H Q3 Q) (le : TupLe K H H1) : KV3 K H1 Q3 Q := fun v H' t H3' l => k v H' t H3' (le.trans l)
theorem KS3.at {N3 : St3 → Hp3 → Prop} {N : L2.St → Hp → Prop} (k : KS3 K H N3 N) (le : TupLe K H H1) : KS3 K H1 N3 N := fun a b c d l => k a b c d (le.trans l)
end
def PE3 (X : Cx) (e : Expr) (t : TE3) : Prop := PE X e (lft X.K t)
def PT3 (X : Cx) (e : Expr) (t : TT3) : Prop := PT X e (lftT X.K t)
def PW3 (X : Cx) (e : Expr) (t : TT3) : Prop := PW X e (lftT X.K t)
def PA3 (X : Cx) (es : List Expr) (t : TA3) : Prop := PA X es (lftA X.K t)
def PS3 (X : Cx) (st : Stmt) (t : TS3) : Prop := PS X st (lftS X.K t)
def PSs3 (X : Cx) (st : List Stmt) (t : TS3) : Prop := PSs X st (lftS X.K t)
def PG3 (X : Cx) (e : Expr) (t : TG3) : Prop := PG X e (lftG X.K t)
def PGs3 (X : Cx) (es : List Expr) (t : TGs3) : Prop := PGs X es (lftGs X.K t)
def OpR3 (X : Cx) (f : Value → Value → Sem Value) (r : R3) : Prop := OpR X f (lftR X.K r)
def UnR3 (X : Cx) (f : Value → Sem Value) (r : T → Hp3 → VK3 → Prop) : Prop := UnR X f (lftU X.K r)
def CallR3 (X : Cx) (f : Value) (r : List T → Hp3 → VK3 → Prop) : Prop := CallR X f (lftC X.K r)
def IxR3 (X : Cx) (r : R3) : Prop := IxR X (lftR X.K r)
def MtR3 (X : Cx) (id : String) (r : T → List T → Hp3 → VK3 → Prop) : Prop := MtR X id (lftM X.K r)

theorem PE.imp {X : Cx} {e : Expr} {t t' : TE} (h : PE X e t) (w : ∀ σ H Q, t' σ H Q → t σ H Q) : PE X e t' := fun pins s σ H Q I q => h pins s σ H Q I (w σ H Q q)
theorem PT.imp {X : Cx} {e : Expr} {t t' : TT} (h : PT X e t) (w : ∀ σ H Q, t' σ H Q → t σ H Q) : PT X e t' := fun pins s σ H Q I q => h pins s σ H Q I (w σ H Q q)
theorem PW.imp {X : Cx} {e : Expr} {t t' : TT} (h : PW X e t) (w : ∀ σ H Q, t' σ H Q → t σ H Q) : PW X e t' := fun wh pins s σ H Q I q => h wh pins s σ H Q I (w σ H Q q)
theorem PA.imp {X : Cx} {es : List Expr} {t t' : TA} (h : PA X es t) (w : ∀ σ H Q, t' σ H Q → t σ H Q) : PA X es t' := fun pos pins s σ H Q I q => h pos pins s σ H Q I (w σ H Q q)
theorem PS.imp {X : Cx} {e : Stmt} {t t' : TS} (h : PS X e t) (w : ∀ D σ H, t' D σ H → t D σ H) : PS X e t' := fun pins s σ H D I q => h pins s σ H D I (w D σ H q)
theorem PSs.imp {X : Cx} {e : List Stmt} {t t' : TS} (h : PSs X e t) (w : ∀ D σ H, t' D σ H → t D σ H) : PSs X e t' := fun pins s σ H D I q => h pins s σ H D I (w D σ H q)
theorem PG.imp {X : Cx} {e : Expr} {t t' : TG} (h : PG X e t) (w : ∀ v σ H Q, t' v σ H Q → t v σ H Q) : PG X e t' := fun pins s σ H v u Q I r q => h pins s σ H v u Q I r (w v σ H Q q)
theorem PGs.imp {X : Cx} {e : List Expr} {t t' : TGs} (h : PGs X e t) (w : ∀ v σ H Q, t' v σ H Q → t v σ H Q) : PGs X e t' := fun pins s σ H v u Q I r q => h pins s σ H v u Q I r (w v σ H Q q)
theorem OpR.imp {X : Cx} {f : Value → Value → Sem Value} {t t' : R2} (h : OpR X f t) (w : ∀ x y H Q, t' x y H Q → t x y H Q) : OpR X f t' := fun pins s σ H x y v u Q I r1 r2 q => h pins s σ H x y v u Q I r1 r2 (w x y H Q q)
theorem UnR.imp {X : Cx} {f : Value → Sem Value} {t t' : V → Hp → VK → Prop} (h : UnR X f t) (w : ∀ x H Q, t' x H Q → t x H Q) : UnR X f t' := fun pins s σ H x v Q I r1 q => h pins s σ H x v Q I r1 (w x H Q q)
theorem CallR.imp {X : Cx} {f : Value} {t t' : List V → Hp → VK → Prop} (h : CallR X f t) (w : ∀ x H Q, t' x H Q → t x H Q) : CallR X f t' := fun pins s σ H x v Q I r1 q => h pins s σ H x v Q I r1 (w x H Q q)
theorem IxR.imp {X : Cx} {t t' : R2} (h : IxR X t) (w : ∀ x y H Q, t' x y H Q → t x y H Q) : IxR X t' := fun a b pins s σ H x y v u Q I r1 r2 q => h a b pins s σ H x y v u Q I r1 r2 (w x y H Q q)
theorem MtR.imp {X : Cx} {id : String} {t t' : V → List V → Hp → VK → Prop} (h : MtR X id t) (w : ∀ x xs H Q, t' x xs H Q → t x xs H Q) : MtR X id t' := fun pins s σ H x xs v us Q I r1 r2 q => h pins s σ H x xs v us Q I r1 r2 (w x xs H Q q)

/-! ### names, constants -/
section
variable {X : Cx} {pos : Pos}
def tVar3 (i : Nat) : TE3 := fun σ H Q => match σ[i]? with
  | some (some t) => Q t H
  | _ => False
def tC3 (t : T) : TE3 := fun _ H Q => Q t H
theorem v3 (i : Nat) {x : Str} {pos : Pos} (hN : X.N[i]? = some x := by rfl) (hv : Vis X.env.scope x := by first | exact Or.inl rfl | exact Or.inr (Or.inl rfl) | exact Or.inr (Or.inr rfl)) (hd : (x == ("__debug__" : Str)) = false := by decide)
    (hcd : (x == ("__classdict__" : Str)) = false := by decide) : PE3 X (.Name x pos) (tVar3 i) := by
  refine PE.imp (pv i hN hv hd hcd) ?_
  rintro σ H Q ⟨σ3, H3, Q3, ss, sh, h, k⟩
  unfold tVar3 at h
  split at h
  · rename_i t e
    obtain ⟨v, e', r⟩ := ss.at' i t e
    exact ⟨v, e', k v H t H3 .refl sh r h⟩
  · exact h.elim
theorem c3_int {i : Int} {j : Nat} : PE3 X (.Constant (.int i) j pos) (tC3 (.int i)) := by
  refine PE.imp pe_int ?_
  rintro σ H Q ⟨σ3, H3, Q3, ss, sh, h, k⟩
  exact k _ _ _ H3 .refl sh .ofInt h
theorem c3_bl {b : Bool} {j : Nat} : PE3 X (.Constant (.bool b) j pos) (tC3 (.bl b)) := by
  refine PE.imp pe_bl ?_
  rintro σ H Q ⟨σ3, H3, Q3, ss, sh, h, k⟩
  exact k _ _ _ H3 .refl sh .ofBl h
theorem c3_non {j : Nat} : PE3 X (.Constant .none j pos) (tC3 .non) := by
  refine PE.imp pe_non ?_
  rintro σ H Q ⟨σ3, H3, Q3, ss, sh, h, k⟩
  exact k _ _ _ H3 .refl sh .ofNon h
theorem c3_str {x : Str} {j : Nat} : PE3 X (.Constant (.str x) j pos) (tC3 (.str x)) := by
  refine PE.imp pe_str ?_
  rintro σ H Q ⟨σ3, H3, Q3, ss, sh, h, k⟩
  exact k _ _ _ H3 .refl sh .ofStr h
/-- a module's constant -/
theorem g3 {x : Str} {t : T} {v : V} {u : Value} (hg : Gl X x) (hm : X.mg x = some u) (r : RelV v u) (rt : ∀ H, Rep X.K H t v) (hd : (x == ("__debug__" : Str)) = false := by decide) : PE3 X (.Name x pos) (tC3 t) := by
  refine PE.imp (pe_glob hg hm r hd) ?_
  rintro σ H Q ⟨σ3, H3, Q3, ss, sh, h, k⟩
  exact k _ _ _ H3 .refl sh (rt H) h
end

/-! ### operators -/
section
variable {X : Cx} {a b c : Expr} {ta tb tc : TE3} {pos : Pos}
def tOp3 (r : R3) (ta tb : TE3) : TE3 := fun σ H Q => ta σ H fun x H1 => tb σ H1 fun y H2 => r x y H2 Q
theorem o3_refine {r : R3} {σ : L2.St} {H : Hp} {Q : VK} (h : lft X.K (tOp3 r ta tb) σ H Q) : tOp (lftR X.K r) (lft X.K ta) (lft X.K tb) σ H Q := by
  obtain ⟨σ3, H3, Q3, ss, sh, h, k⟩ := h
  exact ⟨σ3, H3, _, ss, sh, h, fun x H1 tx H31 le1 sh1 rx q1 => ⟨σ3, H31, _, ss.mono le1, sh1, q1, fun y H2 ty H32 le2 sh2 ry q2 => ⟨tx, ty, H32, Q3, rx.mono le2, ry, sh2, q2, k.at (le1.trans le2)⟩⟩⟩
theorem e3_op {op : Operator} {r : R3} (ho : OpR3 X (binaryOp op) r) (ha : PE3 X a ta) (hb : PE3 X b tb) : PE3 X (.BinOp a op b pos) (tOp3 r ta tb) := PE.imp (pe_op ho ha hb) fun _ _ _ h => o3_refine h
theorem e3_cmp {op : CmpOp} {r : R3} (ho : OpR3 X (compareOp op) r) (ha : PE3 X a ta) (hb : PE3 X b tb) (hm : behindInMarks op b = false := by first | exact nomark _ | rfl) : PE3 X (.Compare a [op] [b] pos) (tOp3 r ta tb) := PE.imp (pe_cmpR ho ha hb hm) fun _ _ _ h => o3_refine h
theorem e3_ix {r : R3} (hr : IxR3 X r) (ha : PE3 X a ta) (hb : PE3 X b tb) (hs : PlainIx b := by exact fun _ _ => rfl) : PE3 X (.Subscript a b pos) (tOp3 r ta tb) := PE.imp (pe_ix hr ha hb hs) fun _ _ _ h => o3_refine h
/-- a test of a bool value -/
def tTest3 (t : TE3) : TT3 := fun σ H Q => t σ H fun x H' => match x with
  | .bl k => Q k H'
  | _ => False
theorem t3_cmp {op : CmpOp} {r : R3} (ho : OpR3 X (compareOp op) r) (ha : PE3 X a ta) (hb : PE3 X b tb) (hm : behindInMarks op b = false := by first | exact nomark _ | rfl) : PT3 X (.Compare a [op] [b] pos) (tTest3 (tOp3 r ta tb)) := by
  refine PT.imp (pt_cmpR ho ha hb hm) ?_
  rintro σ H Q ⟨σ3, H3, Q3, ss, sh, h, k⟩
  refine o3_refine (X := X) ⟨σ3, H3, _, ss, sh, h, fun v H' t H3' le sh' r q => ?_⟩
  cases t with
  | bl b => exact ⟨b, r.bl, k b H' H3' le sh' q⟩
  | _ => exact q.elim
/-- a chain of two comparisons of ints: a op b op' c -/
def tChain3 (r r' : R3) (ta tb tc : TE3) : TE3 := fun σ H Q => ta σ H fun x H1 => tb σ H1 fun y H2 => r x y H2 fun z H3 => match z with
  | .bl k => if k = true then tc σ H3 fun w H4 => r' y w H4 Q else Q (.bl false) H3
  | _ => False
theorem ch_refine {r r' : R3} {σ : L2.St} {H : Hp} {Q : VK} (h : lft X.K (tChain3 r r' ta tb tc) σ H Q) : tChain (lftR X.K r) (lftR X.K r') (lft X.K ta) (lft X.K tb) (lft X.K tc) σ H Q := by
  obtain ⟨σ3, H3, Q3, ss, sh, h, k⟩ := h
  refine ⟨σ3, H3, _, ss, sh, h, fun x H1 tx H31 le1 sh1 rx q1 => ⟨σ3, H31, _, ss.mono le1, sh1, q1, fun y H2 ty H32 le2 sh2 ry q2 => ⟨tx, ty, H32, _, rx.mono le2, ry, sh2, q2, fun z H' t H3' le sh' rz q => ?_⟩⟩⟩
  cases t with
  | bl b =>
    refine ⟨b, rz.bl, ?_⟩
    cases b with
    | true => exact ⟨σ3, H3', _, ss.mono (le1.trans (le2.trans le)), sh', q, fun w H4 tw H34 le4 sh4 rw q4 => ⟨ty, tw, H34, Q3, ry.mono (le.trans le4), rw, sh4, q4, k.at (le1.trans (le2.trans (le.trans le4)))⟩⟩
    | false => exact k _ _ _ _ (le1.trans (le2.trans le)) sh' .ofBl q
  | _ => exact q.elim
theorem e3_chain {op op' : CmpOp} {r r' : R3} (ho : OpR3 X (compareOp op) r) (ho' : OpR3 X (compareOp op') r') (ha : PE3 X a ta) (hb : PE3 X b tb) (hc : PE3 X c tc)
    (hm : lastMarks [op, op'] [b, c] = false := by with_unfolding_all rfl) : PE3 X (.Compare a [op, op'] [b, c] pos) (tChain3 r r' ta tb tc) := PE.imp (pe_chain ho ho' ha hb hc hm) fun _ _ _ h => ch_refine h
end
end L3

set_option Elab.async false
set_option linter.all false
set_option maxRecDepth 100000
set_option maxHeartbeats 1000000
namespace L3
open PySem PySem.Spec PyProof.Rows L2

/-! ### tests -/
section
variable {X : Cx} {a b c : Expr} {ta tb tc : TE3} {tA tB' : TT3} {pos : Pos} {rest : List Expr}
theorem t3_chain {op op' : CmpOp} {r r' : R3} (ho : OpR3 X (compareOp op) r) (ho' : OpR3 X (compareOp op') r') (ha : PE3 X a ta) (hb : PE3 X b tb) (hc : PE3 X c tc)
    (hm : lastMarks [op, op'] [b, c] = false := by with_unfolding_all rfl) : PT3 X (.Compare a [op, op'] [b, c] pos) (tTest3 (tChain3 r r' ta tb tc)) := by
  refine PT.imp (pt_chain ho ho' ha hb hc hm) ?_
  rintro σ H Q ⟨σ3, H3, Q3, ss, sh, h, k⟩
  refine ch_refine (X := X) ⟨σ3, H3, _, ss, sh, h, fun v H' t H3' le sh' r q => ?_⟩
  cases t with
  | bl b => exact ⟨b, r.bl, k b H' H3' le sh' q⟩
  | _ => exact q.elim
/-- an expression that gives a bool, as a test -/
theorem t3_val (h : PE3 X a ta) (he : ∀ whole, isTrue a X.env whole = (do let v ← whole; standAt a.pos; holding [v] (truthy v)) := by intro _; rfl) : PT3 X a (tTest3 ta) := by
  refine PT.imp (pt_val h he) ?_
  rintro σ H Q ⟨σ3, H3, Q3, ss, sh, h, k⟩
  refine ⟨σ3, H3, _, ss, sh, h, fun v H' t H3' le sh' r q => ?_⟩
  cases t with
  | bl b => exact ⟨b, r.bl, k b H' H3' le sh' q⟩
  | _ => exact q.elim
def tAnd3 (t u : TT3) : TT3 := fun σ H Q => t σ H fun c H1 => if c = true then u σ H1 Q else Q false H1
def tOr3 (t u : TT3) : TT3 := fun σ H Q => t σ H fun c H1 => if c = true then Q true H1 else u σ H1 Q
def tNot3 (t : TT3) : TT3 := fun σ H Q => t σ H fun c H1 => Q (!c) H1
theorem PW3.pt (h : PW3 X a tA) : PT3 X a tA := PW.pt h
theorem w3_and1 (ha : PT3 X a tA) : PW3 X (.BoolOp .And [a] pos) tA := pw_and1 ha
theorem w3_or1 (ha : PT3 X a tA) : PW3 X (.BoolOp .Or [a] pos) tA := pw_or1 ha
theorem w3_and (ha : PT3 X a tA) (hb : PW3 X (.BoolOp .And (b :: rest) pos) tB') : PW3 X (.BoolOp .And (a :: b :: rest) pos) (tAnd3 tA tB') := by
  refine PW.imp (pw_and ha hb) ?_
  rintro σ H Q ⟨σ3, H3, Q3, ss, sh, h, k⟩
  refine ⟨σ3, H3, _, ss, sh, h, fun b H' H3' le sh' q => ?_⟩
  cases b with
  | true => exact ⟨σ3, H3', _, ss.mono le, sh', q, fun b H'' H3'' le' sh'' q' => k b H'' H3'' (le.trans le') sh'' q'⟩
  | false => exact k false H' H3' le sh' q
theorem w3_or (ha : PT3 X a tA) (hb : PW3 X (.BoolOp .Or (b :: rest) pos) tB') : PW3 X (.BoolOp .Or (a :: b :: rest) pos) (tOr3 tA tB') := by
  refine PW.imp (pw_or ha hb) ?_
  rintro σ H Q ⟨σ3, H3, Q3, ss, sh, h, k⟩
  refine ⟨σ3, H3, _, ss, sh, h, fun b H' H3' le sh' q => ?_⟩
  cases b with
  | true => exact k true H' H3' le sh' q
  | false => exact ⟨σ3, H3', _, ss.mono le, sh', q, fun b H'' H3'' le' sh'' q' => k b H'' H3'' (le.trans le') sh'' q'⟩
theorem t3_not (ha : PT3 X a tA) : PT3 X (.UnaryOp .Not a pos) (tNot3 tA) := by
  refine PT.imp (pt_not ha) ?_
  rintro σ H Q ⟨σ3, H3, Q3, ss, sh, h, k⟩
  exact ⟨σ3, H3, _, ss, sh, h, fun b H' H3' le sh' q => k _ H' H3' le sh' q⟩
/-! and, or, not as values of bools -/
def tAndV3 (ta tb : TE3) : TE3 := fun σ H Q => ta σ H fun x H1 => match x with
  | .bl c => if c = true then tb σ H1 Q else Q (.bl false) H1
  | _ => False
def tOrV3 (ta tb : TE3) : TE3 := fun σ H Q => ta σ H fun x H1 => match x with
  | .bl c => if c = true then Q (.bl true) H1 else tb σ H1 Q
  | _ => False
def tNotV3 (ta : TE3) : TE3 := fun σ H Q => ta σ H fun x H1 => match x with
  | .bl c => Q (.bl (!c)) H1
  | _ => False
theorem e3_one {op : PySem.BoolOp} {t : TE3} (h : PE3 X a t) : PE3 X (.BoolOp op [a] pos) t := pe_one h
theorem e3_and (ha : PE3 X a ta) (hb : PE3 X (.BoolOp .And (b :: rest) pos) tb) : PE3 X (.BoolOp .And (a :: b :: rest) pos) (tAndV3 ta tb) := by
  refine PE.imp (pe_and ha hb) ?_
  rintro σ H Q ⟨σ3, H3, Q3, ss, sh, h, k⟩
  refine ⟨σ3, H3, _, ss, sh, h, fun v H' t H3' le sh' r q => ?_⟩
  cases t with
  | bl b =>
    refine ⟨b, r.bl, ?_⟩
    cases b with
    | true => exact ⟨σ3, H3', _, ss.mono le, sh', q, k.at le⟩
    | false => exact k _ H' _ H3' le sh' .ofBl q
  | _ => exact q.elim
theorem e3_or (ha : PE3 X a ta) (hb : PE3 X (.BoolOp .Or (b :: rest) pos) tb) : PE3 X (.BoolOp .Or (a :: b :: rest) pos) (tOrV3 ta tb) := by
  refine PE.imp (pe_or ha hb) ?_
  rintro σ H Q ⟨σ3, H3, Q3, ss, sh, h, k⟩
  refine ⟨σ3, H3, _, ss, sh, h, fun v H' t H3' le sh' r q => ?_⟩
  cases t with
  | bl b =>
    refine ⟨b, r.bl, ?_⟩
    cases b with
    | true => exact k _ H' _ H3' le sh' .ofBl q
    | false => exact ⟨σ3, H3', _, ss.mono le, sh', q, k.at le⟩
  | _ => exact q.elim
theorem e3_not (ha : PE3 X a ta) : PE3 X (.UnaryOp .Not a pos) (tNotV3 ta) := by
  refine PE.imp (pe_not ha) ?_
  rintro σ H Q ⟨σ3, H3, Q3, ss, sh, h, k⟩
  refine ⟨σ3, H3, _, ss, sh, h, fun v H' t H3' le sh' r q => ?_⟩
  cases t with
  | bl b => exact ⟨b, r.bl, k _ H' _ H3' le sh' .ofBl q⟩
  | _ => exact q.elim
def tIf3 (t : TT3) (ta tb : TE3) : TE3 := fun σ H Q => t σ H fun c H1 => if c = true then ta σ H1 Q else tb σ H1 Q
theorem e3_if (hc : PT3 X c tA) (ha : PE3 X a ta) (hb : PE3 X b tb) : PE3 X (.IfExp c a b pos) (tIf3 tA ta tb) := by
  refine PE.imp (pe_ifExp hc ha hb) ?_
  rintro σ H Q ⟨σ3, H3, Q3, ss, sh, h, k⟩
  refine ⟨σ3, H3, _, ss, sh, h, fun b H' H3' le sh' q => ?_⟩
  cases b with
  | true => exact ⟨σ3, H3', _, ss.mono le, sh', q, k.at le⟩
  | false => exact ⟨σ3, H3', _, ss.mono le, sh', q, k.at le⟩
end

/-! ### argument lists, displays -/
section
variable {X : Cx} {e : Expr} {es : List Expr} {te : TE3} {t : TA3} {pos : Pos}
def tNil3 : TA3 := fun _ H Q => Q [] H
def tCons3 (ta : TE3) (tr : TA3) : TA3 := fun σ H Q => ta σ H fun x H1 => tr σ H1 fun xs H2 => Q (x :: xs) H2
theorem a3_nil : PA3 X [] tNil3 := by
  refine PA.imp pa_nil ?_
  rintro σ H Q ⟨σ3, H3, Q3, ss, sh, h, k⟩
  exact k _ _ _ _ .refl sh .nil h
theorem a3_cons (ha : PE3 X e te) (hr : PA3 X es t) (hs : starEach (e :: es) X.env = (false, eval e X.env) :: starEach es X.env := by rfl) : PA3 X (e :: es) (tCons3 te t) := by
  refine PA.imp (pa_cons ha hr hs) ?_
  rintro σ H Q ⟨σ3, H3, Q3, ss, sh, h, k⟩
  exact ⟨σ3, H3, _, ss, sh, h, fun v H' t H3' le sh' r q => ⟨σ3, H3', _, ss.mono le, sh', q, fun vs H'' ts H3'' le' sh'' rs q' => k _ _ _ _ (le.trans le') sh'' (.cons (r.mono le') rs) q'⟩⟩
def tTup3 (t : TA3) : TE3 := fun σ H Q => t σ H fun xs H1 => xs.length ≤ sizeLine ∧ Q (.tup xs) H1
def tLst3 (t : TA3) : TE3 := fun σ H Q => t σ H fun xs H1 => xs.length ≤ sizeLine ∧ ∀ p, H1 p = none → Q (.ref p) (up3 H1 p (.lst xs))
theorem SimH.newTup {K : PySem.W.Frag} {H : Hp} {H3 : Hp3} {ts : List T} {xs : List V} {p : Addr} (hp : H p = none) (r : Reps K H ts xs) : Rep K (upd H p (.tup xs)) (.tup ts) (.ref p) :=
  .ofTup (.of upd_same) (r.mono (upd_tupLe hp))
theorem SimH.newLst {K : PySem.W.Frag} {H : Hp} {H3 : Hp3} {ts : List T} {xs : List V} {p : Addr} (s : SimH K H3 H) (hp : H p = none) (r : Reps K H ts xs) : SimH K (up3 H3 p (.lst ts)) (upd H p (.lst xs)) := fun a o e => by
  by_cases ha : a = p
  · subst ha
    rw [up3_same] at e; cases e
    exact ⟨xs, upd_same, r.mono (upd_tupLe hp)⟩
  · rw [up3_ne ha] at e
    exact s.new hp a o e
theorem e3_tup {x1} (h : PA3 X es t) : PE3 X (.Tuple es x1 pos) (tTup3 t) := by
  refine PE.imp (pe_tup h) ?_
  rintro σ H Q ⟨σ3, H3, Q3, ss, sh, h, k⟩
  refine ⟨σ3, H3, _, ss, sh, h, fun vs H' ts H3' le sh' r q => ⟨by rw [← r.length]; exact q.1, fun p hp => ?_⟩⟩
  exact k _ _ _ H3' (le.trans (upd_tupLe hp)) (sh'.new hp) (SimH.newTup (H3 := H3') hp r) q.2
theorem e3_lst (h : PA3 X es t) : PE3 X (.List es pos) (tLst3 t) := by
  refine PE.imp (pe_lst h) ?_
  rintro σ H Q ⟨σ3, H3, Q3, ss, sh, h, k⟩
  refine ⟨σ3, H3, _, ss, sh, h, fun vs H' ts H3' le sh' r q => ⟨by rw [← r.length]; exact q.1, fun p hp => ?_⟩⟩
  exact k _ _ _ _ (le.trans (upd_tupLe hp)) (sh'.newLst hp r) .ofRef (q.2 p (sh'.fresh hp))
end

/-! ### statements -/
section
variable {X : Cx} {st : Stmt} {rest : List Stmt} {e c : Expr} {te : TE3} {tc : TT3} {t u : TS3} {pos : Pos}
def tNext3 : TS3 := fun D σ H => D.nx σ H
def tSeq3 (t u : TS3) : TS3 := fun D σ H => t { D with nx := u D } σ H
theorem ss3_nil : PSs3 X [] tNext3 := by
  refine PSs.imp pss_nil ?_
  rintro D σ H ⟨σ3, H3, D3, ss, sh, h, k1, _⟩
  exact k1 _ _ _ _ .refl ss sh h
theorem ss3_cons (h1 : PS3 X st t) (h2 : PSs3 X rest u) : PSs3 X (st :: rest) (tSeq3 t u) := by
  refine PSs.imp (pss_cons h1 h2) ?_
  rintro D σ H ⟨σ3, H3, D3, ss, sh, h, k1, k2, k3, k4⟩
  exact ⟨σ3, H3, _, ss, sh, h, fun σ' H' σ3' H3' le ss' sh' q => ⟨σ3', H3', D3, ss', sh', q, k1.at le, k2.at le, k3.at le, k4.at le⟩, k2, k3, k4⟩
theorem ss3_one (h1 : PS3 X st t) : PSs3 X [st] t := pss_one h1
def tBreak3 : TS3 := fun D σ H => D.bk σ H
def tCont3 : TS3 := fun D σ H => D.ct σ H
theorem s3_pass : PS3 X (.Pass pos) tNext3 := by
  refine PS.imp ps_pass ?_
  rintro D σ H ⟨σ3, H3, D3, ss, sh, h, k1, _⟩
  exact k1 _ _ _ _ .refl ss sh h
theorem s3_break : PS3 X (.Break pos) tBreak3 := by
  refine PS.imp ps_break ?_
  rintro D σ H ⟨σ3, H3, D3, ss, sh, h, k1, k2, k3, k4⟩
  exact k3 _ _ _ _ .refl ss sh h
theorem s3_continue : PS3 X (.Continue pos) tCont3 := by
  refine PS.imp ps_continue ?_
  rintro D σ H ⟨σ3, H3, D3, ss, sh, h, k1, k2, k3, k4⟩
  exact k4 _ _ _ _ .refl ss sh h
theorem s3_doc {x : Str} {j : Nat} {pos' : Pos} : PS3 X (.Expr (.Constant (.str x) j pos) pos') tNext3 := by
  refine PS.imp ps_doc ?_
  rintro D σ H ⟨σ3, H3, D3, ss, sh, h, k1, _⟩
  exact k1 _ _ _ _ .refl ss sh h
def tDrop3 (te : TE3) : TS3 := fun D σ H => te σ H fun _ H1 => D.nx σ H1
theorem s3_expr (he : PE3 X e te) (hs : swapsWith e none pos.line X.env = pure false := by rfl) : PS3 X (.Expr e pos) (tDrop3 te) := by
  refine PS.imp (ps_expr he hs) ?_
  rintro D σ H ⟨σ3, H3, D3, ss, sh, h, k1, _⟩
  exact ⟨σ3, H3, _, ss, sh, h, fun v H' t H3' le sh' r q => k1 _ _ _ _ le (ss.mono le) sh' q⟩
def tRet3 (te : TE3) : TS3 := fun D σ H => te σ H D.rt
theorem s3_ret (he : PE3 X e te) : PS3 X (.Return (some e) pos) (tRet3 te) := by
  refine PS.imp (ps_ret he) ?_
  rintro D σ H ⟨σ3, H3, D3, ss, sh, h, k1, k2, _⟩
  exact ⟨σ3, H3, _, ss, sh, h, k2⟩
def tRetN3 : TS3 := fun D _ H => D.rt .non H
theorem s3_retN : PS3 X (.Return none pos) tRetN3 := by
  refine PS.imp ps_retN ?_
  rintro D σ H ⟨σ3, H3, D3, ss, sh, h, k1, k2, _⟩
  exact k2 _ _ _ _ .refl sh .ofNon h
def tIfS3 (c : TT3) (t u : TS3) : TS3 := fun D σ H => c σ H fun b H1 => if b = true then t D σ H1 else u D σ H1
theorem s3_if {a b : List Stmt} (hc : PT3 X c tc) (ha : PSs3 X a t) (hb : PSs3 X b u) : PS3 X (.If c a b pos) (tIfS3 tc t u) := by
  refine PS.imp (ps_if hc ha hb) ?_
  rintro D σ H ⟨σ3, H3, D3, ss, sh, h, k1, k2, k3, k4⟩
  refine ⟨σ3, H3, _, ss, sh, h, fun b H' H3' le sh' q => ?_⟩
  cases b with
  | true => exact ⟨σ3, H3', D3, ss.mono le, sh', q, k1.at le, k2.at le, k3.at le, k4.at le⟩
  | false => exact ⟨σ3, H3', D3, ss.mono le, sh', q, k1.at le, k2.at le, k3.at le, k4.at le⟩
/-! targets -/
def gName3 (i : Nat) : TG3 := fun v σ H Q => Q (σ.set i (some v)) H
theorem g3_name {i : Nat} {x : Str} (hN : X.N.Nodup) (hi : X.N[i]? = some x := by rfl) (hx : Loc X.env.scope x := by first | exact Or.inl rfl | exact Or.inr rfl) (hf : X.fn x = true ∨ X.env.scope.names.lookup x = some .local := by first | exact .inl rfl | exact .inr rfl | assumption) : PG3 X (.Name x pos) (gName3 i) := by
  refine PG.imp (pg_name hN hi hx hf) ?_
  rintro v σ H Q ⟨t, σ3, H3, Q3, r, ss, sh, h, k⟩
  exact k _ _ _ _ .refl (ss.set r) sh h
def gNil3 : TGs3 := fun ts σ H Q => match ts with
  | [] => Q σ H
  | _ => False
def gCons3 (t : TG3) (u : TGs3) : TGs3 := fun ts σ H Q => match ts with
  | x :: r => t x σ H fun σ' H' => u r σ' H' Q
  | [] => False
theorem gs3_nil : PGs3 X [] gNil3 := by
  refine PGs.imp pgs_nil ?_
  rintro vs σ H Q ⟨ts, σ3, H3, Q3, r, ss, sh, h, k⟩
  cases ts with
  | nil => exact ⟨r.inv0, k _ _ _ _ .refl ss sh h⟩
  | cons _ _ => exact h.elim
theorem gs3_cons {e : Expr} {es : List Expr} {t : TG3} {u : TGs3} (h1 : PG3 X e t) (h2 : PGs3 X es u)
    (hs : (assignEach (e :: es) X.env).map (·.2) = assign e X.env :: (assignEach es X.env).map (·.2) := by rfl) : PGs3 X (e :: es) (gCons3 t u) := by
  refine PGs.imp (pgs_cons h1 h2 hs) ?_
  rintro vs σ H Q ⟨ts, σ3, H3, Q3, r, ss, sh, h, k⟩
  cases ts with
  | nil => exact h.elim
  | cons x ts =>
    obtain ⟨v, vr, rfl, rv, rr⟩ := r.inv
    exact ⟨v, vr, rfl, x, σ3, H3, _, rv, ss, sh, h, fun σ' H' σ3' H3' le ss' sh' q => ⟨ts, σ3', H3', Q3, rr.mono le, ss', sh', q, k.at le⟩⟩
def gTup3 (n : Nat) (g : TGs3) : TG3 := fun t σ H Q => match t with
  | .tup ts => ts.length = n ∧ g ts σ H Q
  | _ => False
theorem g3_tup {es : List Expr} {k : Nat} {t : TGs3} {n : Nat} (hc : X.calm = true) (h : PGs3 X es t)
    (hn : (assignEach es X.env).length = n := by rfl) (hst : (assignEach es X.env).findIdx? (·.1) = none := by rfl) : PG3 X (.Tuple es k pos) (gTup3 n t) := by
  refine PG.imp (pg_tup hc h hn hst) ?_
  rintro v σ H Q ⟨t, σ3, H3, Q3, r, ss, sh, h, k⟩
  cases t with
  | tup ts =>
    obtain ⟨a, xs, rfl, s, rs⟩ := r.tup
    exact ⟨a, xs, rfl, s, by rw [← rs.length]; exact h.1, ts, σ3, H3, Q3, rs, ss, sh, h.2, k⟩
  | _ => exact h.elim
def tAsg3 (te : TE3) (g : TG3) : TS3 := fun D σ H => te σ H fun x H1 => g x σ H1 D.nx
theorem s3_asg {tg e : Expr} {te : TE3} {g : TG3} (he : PE3 X e te) (hg : PG3 X tg g) (hs : swapsWithSole [tg] e pos.line X.env = pure false := by rfl) (hw : swappedStores [tg] e X.env = pure none := by rfl)
    (h1 : (assignEach [tg] X.env).map (·.2) = [assign tg X.env] := by rfl) : PS3 X (.Assign [tg] e pos) (tAsg3 te g) := by
  refine PS.imp (ps_asg he hg hs hw h1) ?_
  rintro D σ H ⟨σ3, H3, D3, ss, sh, h, k1, _⟩
  exact ⟨σ3, H3, _, ss, sh, h, fun v H' t H3' le sh' r q => ⟨t, σ3, H3', _, r, ss.mono le, sh', q, k1.at le⟩⟩
theorem s3_set {i : Nat} {x : Str} {e : Expr} {te : TE3} {pos' : Pos} (hN : X.N.Nodup) (he : PE3 X e te) (hi : X.N[i]? = some x := by rfl) (hx : Loc X.env.scope x := by first | exact Or.inl rfl | exact Or.inr rfl)
    (hs : swapsWith e (some (.Name x pos')) pos.line X.env = pure false := by rfl) (hf : X.fn x = true ∨ X.env.scope.names.lookup x = some .local := by first | exact .inl rfl | exact .inr rfl | assumption) :
    PS3 X (.Assign [.Name x pos'] e pos) (tAsg3 te (gName3 i)) := by
  refine PS.imp (ps_set hN hi hx he hs hf) ?_
  rintro D σ H ⟨σ3, H3, D3, ss, sh, h, k1, _⟩
  exact ⟨σ3, H3, _, ss, sh, h, fun v H' t H3' le sh' r q => k1 _ _ _ _ le ((ss.mono le).set r) sh' q⟩
end

/-! ### o[i] = v -/
abbrev TSet3 := T → T → T → Hp3 → (Hp3 → Prop) → Prop
def lftSet (K : PySem.W.Frag) (t3 : TSet3) : TSet := fun o i v H Q => ∃ to ti tv H3 Q3, Rep K H to o ∧ Rep K H ti i ∧ Rep K H tv v ∧ SimH K H3 H ∧ t3 to ti tv H3 Q3 ∧ ∀ H' H3', TupLe K H H' → SimH K H3' H' → Q3 H3' → Q H'
def PSet3 (X : Cx) (t : TSet3) : Prop := PSet X (lftSet X.K t)
theorem PSet.imp {X : Cx} {t t' : TSet} (h : PSet X t) (w : ∀ o i v H Q, t' o i v H Q → t o i v H Q) : PSet X t' := fun pins s σ H o i v ov iv u Q I r1 r2 r3 q => h pins s σ H o i v ov iv u Q I r1 r2 r3 (w o i v H Q q)
section
variable {X : Cx} {pos : Pos}
def gSub3 (to ti : TE3) (t : TSet3) : TG3 := fun v σ H Q => to σ H fun o H1 => ti σ H1 fun i H2 => t o i v H2 fun H3 => Q σ H3
theorem g3_sub {o i : Expr} {to ti : TE3} {t : TSet3} (ho : PE3 X o to) (hi : PE3 X i ti) (hs : PSet3 X t)
    (ha : ∀ v, assign (.Subscript o i pos) X.env v = (do
      let ov ← holding [v] (eval o X.env)
      let iv ← holding [v, ov] (eval i X.env)
      standAt pos
      holding [v, ov, iv] (setItem ov iv v)
      release [v, ov, iv] []) := by intro _; rfl) : PG3 X (.Subscript o i pos) (gSub3 to ti t) := by
  refine PG.imp (pg_sub ho hi hs ha) ?_
  rintro v σ H Q ⟨t, σ3, H3, Q3, r, ss, sh, h, k⟩
  exact ⟨σ3, H3, _, ss, sh, h, fun o H1 to H31 le1 sh1 ro q1 => ⟨σ3, H31, _, ss.mono le1, sh1, q1, fun i H2 ti H32 le2 sh2 ri q2 => ⟨to, ti, t, H32, _, ro.mono le2, ri, r.mono (le1.trans le2), sh2, q2, fun H' H3' le sh' q => k _ _ _ _ (le1.trans (le2.trans le)) (ss.mono (le1.trans (le2.trans le))) sh' q⟩⟩⟩
end
end L3

set_option Elab.async false
set_option linter.all false
set_option maxRecDepth 100000
set_option maxHeartbeats 1000000
namespace L3
open PySem PySem.Spec PyProof.Rows L2

/-! ### what a loop walks: a row of trees, while the heap still bears it -/
abbrev TI3 := St3 → Hp3 → (List T → (Hp3 → Prop) → Hp3 → Prop) → Prop
def Walk3 (K : PySem.W.Frag) (J : It) (ts : List T) (still : Hp3 → Prop) (H : Hp) : Prop := ∀ H' H3', TupLe K H H' → SimH K H3' H' → still H3' →
  (∀ i, ts.length ≤ i → J.stop i H') ∧ ∀ i t, ts[i]? = some t → J.go i H' ∧ ∀ x H'', J.yld i H' x H'' → TupLe K H' H'' ∧ SimH K H3' H'' ∧ Rep K H'' t x
def lftI (K : PySem.W.Frag) (t3 : TI3) : TI := fun σ H R => ∃ σ3 H3 R3, SimS K H σ3 σ ∧ SimH K H3 H ∧ t3 σ3 H3 R3 ∧ ∀ J ts still H' H3', TupLe K H H' → SimH K H3' H' → Walk3 K J ts still H' → R3 ts still H3' → R J H'
def PI3 (X : Cx) (tg iter : Expr) (t : TI3) : Prop := PI X tg iter (lftI X.K t)
theorem PI.imp {X : Cx} {tg e : Expr} {t t' : TI} (h : PI X tg e t) (w : ∀ σ H R, t' σ H R → t σ H R) : PI X tg e t' := fun pins s σ H R I q => h pins s σ H R I (w σ H R q)

def still0 : Hp3 → Prop := fun _ => True
def stillL (a : Addr) (ts : List T) : Hp3 → Prop := fun H => H a = some (.lst ts) ∨ H a = some (.rol ts)
theorem SimH.sqL {K : PySem.W.Frag} {H : Hp} {H3 : Hp3} {a : Addr} {ts : List T} (s : SimH K H3 H) (h : stillL a ts H3) : ∃ xs, SqL K H a xs ∧ Reps K H ts xs := by
  rcases h with h | h
  · obtain ⟨xs, e, r⟩ := s a _ h
    exact ⟨xs, .of e, r⟩
  · obtain ⟨xs, e, r⟩ := s a _ h
    exact ⟨xs, .inl e, r⟩
section
variable {X : Cx} {tg l : Expr} {tl : TE3} {pos p : Pos}
/-- a list that is met, as it stands -/
def iList3 (tl : TE3) : TI3 := fun σ H R => tl σ H fun x H1 => match x with
  | .ref a => match H1 a with
    | some (.lst ts) => R ts (stillL a ts) H1
    | some (.rol ts) => R ts (stillL a ts) H1
    | _ => False
  | _ => False
theorem walk_list {K : PySem.W.Frag} {H : Hp} {a : Addr} {ts : List T} : Walk3 K (Itl K a) ts (stillL a ts) H := fun H' H3' le sh st => by
  obtain ⟨xs, sq, rs⟩ := sh.sqL st
  have hl := rs.length
  refine ⟨fun i hi => ⟨xs, sq, by omega⟩, fun i t e => ?_⟩
  obtain ⟨v, ev, rv⟩ := rs.get e
  refine ⟨⟨xs, v, sq, ev⟩, fun x H'' y => ?_⟩
  obtain ⟨e1, y⟩ := y
  subst e1
  have := y xs sq
  rw [ev] at this; cases this
  exact ⟨.refl, sh, rv⟩
theorem i3_list (hl : PE3 X l tl) : PI3 X tg l (iList3 tl) := by
  refine PI.imp (pi_list hl) ?_
  rintro σ H R ⟨σ3, H3, R3, ss, sh, h, k⟩
  refine ⟨σ3, H3, _, ss, sh, h, fun v H' t H3' le sh' r q => ?_⟩
  cases t with
  | ref a =>
    have q' : (match H3' a with
      | some (.lst ts) => R3 ts (stillL a ts) H3'
      | some (.rol ts) => R3 ts (stillL a ts) H3'
      | _ => False) := q
    split at q'
    · rename_i ts e
      obtain ⟨xs, sq, rs⟩ := sh'.sqL (.inl e)
      exact ⟨a, r.ref, ⟨xs, sq⟩, k _ ts (stillL a ts) H' H3' le sh' walk_list q'⟩
    · rename_i ts e
      obtain ⟨xs, sq, rs⟩ := sh'.sqL (.inr e)
      exact ⟨a, r.ref, ⟨xs, sq⟩, k _ ts (stillL a ts) H' H3' le sh' walk_list q'⟩
    · exact q'.elim
  | _ => exact q.elim
/-- a tuple -/
def iTup3 (tl : TE3) : TI3 := fun σ H R => tl σ H fun x H1 => match x with
  | .tup ts => R ts still0 H1
  | _ => False
theorem walk_tup {K : PySem.W.Frag} {H : Hp} {a : Addr} {ts : List T} {xs : List V} (sq : SqT K H a xs) (rs : Reps K H ts xs) : Walk3 K (Itt K a) ts still0 H := fun H' H3' le sh st => by
  have hl := rs.length
  refine ⟨fun i hi => ⟨xs, le _ _ sq, by omega⟩, fun i t e => ?_⟩
  obtain ⟨v, ev, rv⟩ := rs.get e
  refine ⟨⟨xs, v, le _ _ sq, ev⟩, fun x H'' y => ?_⟩
  obtain ⟨e1, y⟩ := y
  subst e1
  have := y xs (le _ _ sq)
  rw [ev] at this; cases this
  exact ⟨.refl, sh, rv.mono le⟩
theorem i3_tup (hl : PE3 X l tl) : PI3 X tg l (iTup3 tl) := by
  refine PI.imp (pi_tup hl) ?_
  rintro σ H R ⟨σ3, H3, R3, ss, sh, h, k⟩
  refine ⟨σ3, H3, _, ss, sh, h, fun v H' t H3' le sh' r q => ?_⟩
  cases t with
  | tup ts =>
    obtain ⟨a, xs, e, sq, rs⟩ := r.tup
    exact ⟨a, e, ⟨xs, sq⟩, k _ ts still0 H' H3' le sh' (walk_tup sq rs) q⟩
  | _ => exact q.elim
def rng3 (lo : Int) (n : Nat) : List T := (List.range n).map fun (i : Nat) => T.int (lo + i)
theorem walk_rng {K : PySem.W.Frag} {H : Hp} {lo : Int} {n : Nat} : Walk3 K (Itr lo n) (rng3 lo n) still0 H := fun H' H3' le sh st => by
  refine ⟨fun i hi => by unfold rng3 at hi; simp at hi; exact hi, fun i t e => ?_⟩
  unfold rng3 at e
  rw [List.getElem?_map] at e
  by_cases hi : i < n
  · rw [List.getElem?_range hi] at e
    cases e
    refine ⟨hi, fun x H'' y => ?_⟩
    obtain ⟨e1, e2⟩ := y
    subst e1; subst e2
    exact ⟨.refl, sh, .ofInt⟩
  · rw [List.getElem?_eq_none (by simpa using hi)] at e; cases e
def iRng3 (ta : TA3) : TI3 := fun σ H R => ta σ H fun vs H1 => match vs with
  | [.int j] => -(2 ^ 62) ≤ j ∧ j < 2 ^ 62 ∧ R (rng3 0 j.toNat) still0 H1
  | [.int i, .int j] => (-(2 ^ 62) ≤ i ∧ i < 2 ^ 62 ∧ -(2 ^ 62) ≤ j ∧ j < 2 ^ 62) ∧ R (rng3 i (j - i).toNat) still0 H1
  | _ => False
theorem i3_range1 {a : Expr} {ta : TA3} (hg : Gl X "range") (hm : X.mg "range" = none) (ha : PA3 X [a] ta) (hs : starEach [a] X.env = [(false, eval a X.env)] := by rfl) : PI3 X tg (.Call (.Name "range" p) [a] [] pos) (iRng3 (fun σ H Q => ta σ H fun vs H1 => vs.length = 1 ∧ Q vs H1)) := by
  refine PI.imp (pi_range1 hg hm ha hs) ?_
  rintro σ H R ⟨σ3, H3, R3, ss, sh, h, k⟩
  refine ⟨σ3, H3, _, ss, sh, h, fun vs H' ts H3' le sh' r q => ?_⟩
  obtain ⟨hl, q⟩ := q
  match ts, hl, q, r with
  | [.int j], _, q, r =>
    obtain ⟨v, _, rfl, rv, r0⟩ := r.inv
    rw [r0.inv0, rv.int]
    exact ⟨j, rfl, q.1, q.2.1, k _ _ _ H' H3' le sh' walk_rng q.2.2⟩
  | [.non], _, q, _ => exact q.elim
  | [.bl _], _, q, _ => exact q.elim
  | [.str _], _, q, _ => exact q.elim
  | [.tup _], _, q, _ => exact q.elim
  | [.ref _], _, q, _ => exact q.elim
  | [.ty _], _, q, _ => exact q.elim
theorem i3_range2 {a b : Expr} {ta : TA3} (hg : Gl X "range") (hm : X.mg "range" = none) (ha : PA3 X [a, b] ta) (hs : starEach [a, b] X.env = [(false, eval a X.env), (false, eval b X.env)] := by rfl) (hs2 : starEach [b] X.env = [(false, eval b X.env)] := by rfl) :
    PI3 X tg (.Call (.Name "range" p) [a, b] [] pos) (iRng3 (fun σ H Q => ta σ H fun vs H1 => vs.length = 2 ∧ Q vs H1)) := by
  refine PI.imp (pi_range2 hg hm ha hs hs2) ?_
  rintro σ H R ⟨σ3, H3, R3, ss, sh, h, k⟩
  refine ⟨σ3, H3, _, ss, sh, h, fun vs H' ts H3' le sh' r q => ?_⟩
  obtain ⟨hl, q⟩ := q
  match ts, hl, r with
  | [t1, t2], _, r =>
    obtain ⟨v, _, rfl, rv, r1⟩ := r.inv
    obtain ⟨v2, _, rfl, rv2, r2⟩ := r1.inv
    cases t1 with
    | int i =>
      cases t2 with
      | int j =>
        rw [r2.inv0, rv.int, rv2.int]
        exact ⟨i, j, rfl, q.1, k _ _ _ H' H3' le sh' walk_rng q.2⟩
      | _ => exact q.elim
    | _ => cases t2 <;> exact q.elim
end

/-! ### for -/
def iter3 (g : TG3) (tb : TS3) (D : Ends3) (still : Hp3 → Prop) : List T → St3 → Hp3 → Prop
  | [], σ, H => still H ∧ D.nx σ H
  | t :: r, σ, H => still H ∧ g t σ H fun σ2 H2 => tb { D with nx := iter3 g tb D still r, ct := iter3 g tb D still r, bk := D.nx } σ2 H2
theorem iter3.st {g : TG3} {tb : TS3} {D : Ends3} {still : Hp3 → Prop} {ts : List T} {σ : St3} {H : Hp3} (h : iter3 g tb D still ts σ H) : still H := by
  cases ts with
  | nil => exact h.1
  | cons t r => exact h.1
def tFor3 (wi : TI3) (g : TG3) (tb : TS3) : TS3 := fun D σ H => wi σ H fun ts still H1 => iter3 g tb D still ts σ H1
section
variable {X : Cx} {tg iter : Expr} {pos : Pos}
theorem s3_for {body : List Stmt} {wi : TI3} {g : TG3} {tb : TS3} (hp : PassesOwn (model X.prog X.w) X.A X.env X.xe) (hc : X.calm = true) (hi : PI3 X tg iter wi) (hg : PG3 X tg g) (hb : PSs3 X body tb)
    (hs : ∀ x, foldedSetIterable iter X.env x = pure x := by intro _; rfl) : PS3 X (.For tg iter body [] pos) (tFor3 wi g tb) := by
  refine PS.imp (ps_for hp hc hi hg hb hs) ?_
  rintro D σ H ⟨σ3, H3, D3, ss, sh, h, k1, k2, k3, k4⟩
  refine ⟨σ3, H3, _, ss, sh, h, fun J ts still H1 H31 le sh1 wk q => ?_⟩
  refine ⟨fun i m σ H => ∃ σ3 H3, TupLe X.K H1 H ∧ SimS X.K H σ3 σ ∧ SimH X.K H3 H ∧ m = ts.length - i ∧ i ≤ ts.length ∧ iter3 g tb D3 still (ts.drop i) σ3 H3, ⟨ts.length, σ3, H31, .refl, ss.mono le, sh1, rfl, Nat.zero_le _, by simpa using q⟩, ?_⟩
  rintro i m σ H ⟨σ4, H4, le4, ss4, sh4, rfl, hi, it⟩
  have w := wk H H4 le4 sh4 it.st
  by_cases hlt : i < ts.length
  · have e := List.getElem?_eq_getElem hlt
    have ed : ts.drop i = ts[i] :: ts.drop (i + 1) := List.drop_eq_getElem_cons hlt
    rw [ed] at it
    obtain ⟨st, it⟩ := it
    obtain ⟨go, yl⟩ := w.2 i _ e
    refine .inr ⟨go, fun σ' H' => ∃ σ3 H3, TupLe X.K H1 H' ∧ SimS X.K H' σ3 σ' ∧ SimH X.K H3 H' ∧ iter3 g tb D3 still (ts.drop (i + 1)) σ3 H3, fun σ' H' ⟨s5, h5, a, b, c, d⟩ => ⟨ts.length - (i + 1), by omega, s5, h5, a, b, c, rfl, hlt, d⟩, fun x H' y => ?_⟩
    obtain ⟨le', sh', rx⟩ := yl x H' y
    refine ⟨ts[i], σ4, H4, _, rx, ss4.mono le', sh', it, fun σ2 H2 σ32 H32 le2 ss2 sh2 q2 => ?_⟩
    have all : TupLe X.K H1 H2 := le4.trans (le'.trans le2)
    have nx : ∀ (B : TupLe X.K H1 H2), KS3 X.K H2 (iter3 g tb D3 still (ts.drop (i + 1))) (fun σ' H' => ∃ σ3 H3, TupLe X.K H1 H' ∧ SimS X.K H' σ3 σ' ∧ SimH X.K H3 H' ∧ iter3 g tb D3 still (ts.drop (i + 1)) σ3 H3) :=
      fun B σ' H' σ3' H3' l s h q => ⟨σ3', H3', B.trans l, s, h, q⟩
    exact ⟨σ32, H32, _, ss2, sh2, q2, nx all, k2.at (le.trans all), k1.at (le.trans all), nx all⟩
  · have e : i = ts.length := by omega
    subst e
    rw [List.drop_length] at it
    exact .inl ⟨w.1 _ (Nat.le_refl _), k1 _ _ _ _ (le.trans le4) ss4 sh4 it.2⟩

/-! ### while -/
def tWhile3 (c : TT3) (tb : TS3) : TS3 := fun D σ H => ∃ W : Nat → St3 → Hp3 → Prop, (∃ m, W m σ H) ∧ ∀ m σ H, W m σ H →
  c σ H fun b H1 => if b = true then tb { D with nx := fun σ' H' => ∃ m', m' < m ∧ W m' σ' H', ct := fun σ' H' => ∃ m', m' < m ∧ W m' σ' H', bk := D.nx } σ H1 else D.nx σ H1
theorem s3_while {c : Expr} {body : List Stmt} {tc : TT3} {tb : TS3} (hp : PassesOwn (model X.prog X.w) X.A X.env X.xe) (hc : PT3 X c tc) (hb : PSs3 X body tb) : PS3 X (.While c body [] pos) (tWhile3 tc tb) := by
  refine PS.imp (ps_while hp hc hb) ?_
  rintro D σ H ⟨σ3, H3, D3, ss, sh, ⟨W, ⟨m0, w0⟩, turn⟩, k1, k2, k3, k4⟩
  refine ⟨fun m σ' H' => ∃ σ3 H3, TupLe X.K H H' ∧ SimS X.K H' σ3 σ' ∧ SimH X.K H3 H' ∧ W m σ3 H3, ⟨m0, σ3, H3, .refl, ss, sh, w0⟩, ?_⟩
  rintro m σ1 H1 ⟨σ4, H4, le4, ss4, sh4, w4⟩
  refine ⟨σ4, H4, _, ss4, sh4, turn m σ4 H4 w4, fun b H2 H5 le5 sh5 q => ?_⟩
  cases b with
  | true =>
    rw [if_pos rfl] at q ⊢
    have nx : KS3 X.K H2 (fun σ' H' => ∃ m', m' < m ∧ W m' σ' H') (fun σ' H' => ∃ m', m' < m ∧ ∃ σ3 H3, TupLe X.K H H' ∧ SimS X.K H' σ3 σ' ∧ SimH X.K H3 H' ∧ W m' σ3 H3) :=
      fun σ' H' σ3' H3' l s h ⟨m', hm, w⟩ => ⟨m', hm, σ3', H3', le4.trans (le5.trans l), s, h, w⟩
    exact ⟨_, fun σ' H' h => h, σ4, H5, _, ss4.mono le5, sh5, q, nx, k2.at (le4.trans le5), k1.at (le4.trans le5), nx⟩
  | false =>
    rw [if_neg Bool.false_ne_true] at q ⊢
    exact k1 _ _ _ _ (le4.trans le5) (ss4.mono le5) sh5 q
end

/-! ### comprehensions -/
def PIf3 (X : Cx) (ifs : List Expr) (t : TT3) : Prop := PIf X ifs (lftT X.K t)
def tYes3 : TT3 := fun _ H Q => Q true H
theorem if3_nil {X : Cx} : PIf3 X [] tYes3 := fun pins s σ H Q I ⟨σ3, H3, Q3, ss, sh, h, k⟩ => pif_nil pins s σ H Q I (k _ _ _ .refl sh h)
theorem if3_one {X : Cx} {c : Expr} {t : TT3} (h : PT3 X c t) : PIf3 X [c] t := pif_one h
def cap3 (nt : Nat) (cap : List Nat) (σ : St3) : St3 := List.replicate nt none ++ cap.map fun j => (σ[j]?).getD none
theorem cap_sim {K : PySem.W.Frag} {H : Hp} {σ3 : St3} {σ : L2.St} {nt : Nat} {cap : List Nat} (s : SimS K H σ3 σ) : SimS K H (cap3 nt cap σ3) (capS nt cap σ) := by
  refine ⟨by simp [cap3, capS], fun i t e => ?_⟩
  unfold cap3 at e
  unfold capS
  by_cases hi : i < nt
  · rw [List.getElem?_append_left (by simpa using hi), List.getElem?_replicate] at e
    split at e <;> cases e
  · rw [List.getElem?_append_right (by simpa using hi), List.getElem?_map] at e
    rw [List.getElem?_append_right (by simpa using hi), List.getElem?_map]
    simp only [List.length_replicate] at e ⊢
    cases q : cap[i - nt]? with
    | none => rw [q] at e; cases e
    | some j =>
      rw [q] at e
      have e' : (σ3[j]?).getD none = some t := Option.some.inj e
      have e2 : σ3[j]? = some (some t) := by
        cases z : σ3[j]? with
        | none => rw [z] at e'; cases e'
        | some y => rw [z] at e'; exact congrArg some e'
      obtain ⟨v, ev, r⟩ := s.at' j t e2
      exact ⟨v, by simp [ev], r⟩
def cIter3 (g : TG3) (tt : TT3) (te : TE3) (still : Hp3 → Prop) (fin : List T → Hp3 → Prop) : List T → List T → St3 → Hp3 → Prop
  | [], ys, σ, H => still H ∧ ys.length ≤ sizeLine ∧ fin ys H
  | t :: r, ys, σ, H => still H ∧ g t σ H fun σ2 H2 => tt σ2 H2 fun b H3 => if b = true then te σ2 H3 fun y H4 => ys.length < sizeLine ∧ cIter3 g tt te still fin r (ys ++ [y]) σ2 H4 else cIter3 g tt te still fin r ys σ2 H3
theorem cIter3.st {g : TG3} {tt : TT3} {te : TE3} {still : Hp3 → Prop} {fin : List T → Hp3 → Prop} {ts ys : List T} {σ : St3} {H : Hp3} (h : cIter3 g tt te still fin ts ys σ H) : still H := by
  cases ts with
  | nil => exact h.1
  | cons t r => exact h.1
/-- from the reading over trees to the one below -/
theorem compW3 {K : PySem.W.Frag} {J : It} {g : TG3} {tt : TT3} {te : TE3} {still : Hp3 → Prop} {fin3 : List T → Hp3 → Prop} {fin : List V → Hp → Prop} {ts : List T} {σ3 : St3} {σ : L2.St} {H1 : Hp} {H31 : Hp3}
    (wk : Walk3 K J ts still H1) (ss : SimS K H1 σ3 σ) (sh : SimH K H31 H1) (h : cIter3 g tt te still fin3 ts [] σ3 H31)
    (hf : ∀ ys us H' H3', TupLe K H1 H' → SimH K H3' H' → Reps K H' ys us → fin3 ys H3' → fin us H') : CompW J (lftG K g) (lftT K tt) (lft K te) fin σ H1 := by
  refine ⟨fun i m us σ H => ∃ σ3 H3 ys, TupLe K H1 H ∧ SimS K H σ3 σ ∧ SimH K H3 H ∧ Reps K H ys us ∧ m = ts.length - i ∧ i ≤ ts.length ∧ cIter3 g tt te still fin3 (ts.drop i) ys σ3 H3, ⟨ts.length, σ3, H31, [], .refl, ss, sh, .nil, rfl, Nat.zero_le _, by simpa using h⟩, ?_⟩
  rintro i m us σ H ⟨σ4, H4, ys, le4, ss4, sh4, ry, rfl, hi, it⟩
  have w := wk H H4 le4 sh4 it.st
  by_cases hlt : i < ts.length
  · have e := List.getElem?_eq_getElem hlt
    have ed : ts.drop i = ts[i] :: ts.drop (i + 1) := List.drop_eq_getElem_cons hlt
    rw [ed] at it
    obtain ⟨st, it⟩ := it
    obtain ⟨go, yl⟩ := w.2 i _ e
    refine .inr ⟨go, fun x H' y => ?_⟩
    obtain ⟨le', sh', rx⟩ := yl x H' y
    refine ⟨ts[i], σ4, H4, _, rx, ss4.mono le', sh', it, fun σ2 H2 σ32 H32 le2 ss2 sh2 q2 => ?_⟩
    refine ⟨σ32, H32, _, ss2, sh2, q2, fun b H3 H33 le3 sh3 q3 => ?_⟩
    have all : TupLe K H H3 := le'.trans (le2.trans le3)
    cases b with
    | true =>
      rw [if_pos rfl] at q3
      refine iteT ?_
      refine ⟨σ32, H33, _, ss2.mono le3, sh3, q3, fun v H5 t H35 le5 sh5 rt q5 => ⟨by rw [← ry.length]; exact q5.1, ts.length - (i + 1), by omega, σ32, H35, ys ++ [t], le4.trans (all.trans le5), ss2.mono (le3.trans le5), sh5, (ry.mono (all.trans le5)).append (.cons rt .nil), rfl, hlt, q5.2⟩⟩
    | false =>
      rw [if_neg Bool.false_ne_true] at q3
      refine iteF ?_
      exact ⟨ts.length - (i + 1), by omega, σ32, H33, ys, le4.trans all, ss2.mono le3, sh3, ry.mono all, rfl, hlt, q3⟩
  · have e : i = ts.length := by omega
    subst e
    rw [List.drop_length] at it
    exact .inl ⟨w.1 _ (Nat.le_refl _), by rw [← ry.length]; exact it.2.1, hf _ _ _ _ le4 sh4 ry it.2.2⟩
def tComp3 (wi : TI3) (g : TG3) (tt : TT3) (te : TE3) (nt : Nat) (cap : List Nat) : TE3 := fun σ H Q => wi σ H fun ts still H1 => cIter3 g tt te still (fun ys H' => ∀ p, H' p = none → Q (.ref p) (up3 H' p (.lst ys))) ts [] (cap3 nt cap σ) H1
def tSetComp3 (wi : TI3) (g : TG3) (tt : TT3) (te : TE3) (nt : Nat) (cap : List Nat) (i : Nat) : TS3 := fun D σ H => wi σ H fun ts still H1 => cIter3 g tt te still (fun ys H' => ∀ p, H' p = none → D.nx (σ.set i (some (.ref p))) (up3 H' p (.lst ys))) ts [] (cap3 nt cap σ) H1
section
variable {X : Cx} {N' : List Str} {nt : Nat} {cap : List Nat} {scope : Scope} {elt tg iter : Expr} {ifs : List Expr} {pos pos' spos : Pos} {wi : TI3} {g : TG3} {tt : TT3} {te : TE3}
theorem e3_comp (hc : X.calm = true) (S : CompSc X N' nt cap scope) (hi : PI3 X tg iter wi)
    (hX : ∀ cl pins s H C fp, PG3 (cxComp X N' scope cl pins s H C fp) tg g ∧ PIf3 (cxComp X N' scope cl pins s H C fp) ifs tt ∧ PE3 (cxComp X N' scope cl pins s H C fp) elt te)
    (hs : ∀ x, foldedSetIterable iter X.env x = pure x := by intro _; rfl) : PE3 X (.ListComp elt [⟨tg, iter, ifs, 0⟩] scope pos) (tComp3 wi g tt te nt cap) := by
  refine PE.imp (pe_comp (g := lftG X.K g) (tt := lftT X.K tt) (te := lft X.K te) hc S hi hX hs) ?_
  rintro σ H Q ⟨σ3, H3, Q3, ss, sh, h, k⟩
  refine ⟨σ3, H3, _, ss, sh, h, fun J ts still H1 H31 le sh1 wk q => ?_⟩
  exact compW3 wk (cap_sim (ss.mono le)) sh1 q fun ys us H' H3' le' sh' ry q' p hp => k _ _ _ _ (le.trans (le'.trans (upd_tupLe hp))) (sh'.newLst hp ry) .ofRef (q' p (sh'.fresh hp))
theorem s3_setC {i : Nat} {x : Str} (hc : X.calm = true) (hN : X.N.Nodup) (S : CompSc X N' nt cap scope) (hi : PI3 X tg iter wi)
    (hX : ∀ cl pins s H C fp, PG3 (cxComp X N' scope cl pins s H C fp) tg g ∧ PIf3 (cxComp X N' scope cl pins s H C fp) ifs tt ∧ PE3 (cxComp X N' scope cl pins s H C fp) elt te)
    (hi' : X.N[i]? = some x := by rfl) (hx : Loc X.env.scope x := by first | exact Or.inl rfl | exact Or.inr rfl)
    (hsw : swapsWith (.ListComp elt [⟨tg, iter, ifs, 0⟩] scope pos) (some (.Name x pos')) spos.line X.env = pure true := by rfl)
    (hs : ∀ x, foldedSetIterable iter X.env x = pure x := by intro _; rfl) (hf : X.fn x = true ∨ X.env.scope.names.lookup x = some .local := by first | exact .inl rfl | exact .inr rfl | assumption) :
    PS3 X (.Assign [.Name x pos'] (.ListComp elt [⟨tg, iter, ifs, 0⟩] scope pos) spos) (tSetComp3 wi g tt te nt cap i) := by
  refine PS.imp (ps_setC (g := lftG X.K g) (tt := lftT X.K tt) (te := lft X.K te) hc hN hi' hx S hi hX hsw hs hf) ?_
  rintro D σ H ⟨σ3, H3, D3, ss, sh, h, k1, _⟩
  refine ⟨σ3, H3, _, ss, sh, h, fun J ts still H1 H31 le sh1 wk q => ?_⟩
  exact compW3 wk (cap_sim (ss.mono le)) sh1 q fun ys us H' H3' le' sh' ry q' p hp =>
    k1 _ _ _ _ (le.trans (le'.trans (upd_tupLe hp))) ((ss.mono (le.trans (le'.trans (upd_tupLe hp)))).set .ofRef) (sh'.newLst hp ry) (q' p (sh'.fresh hp))
end

/-! ### calls of the text's own defs -/
abbrev XK3 := Value → List (Str × T) → Hp3 → Prop
abbrev Sp3 := List T → Hp3 → VK3 → Prop
def lftSp (K : PySem.W.Frag) (sp : Sp3) : Sp := fun vs H Q _ => ∃ ts H3 Q3, Reps K H ts vs ∧ SimH K H3 H ∧ sp ts H3 Q3 ∧ KV3 K H Q3 Q
/-- what is forgotten -/
def Sub3 (H H' : Hp3) : Prop := ∀ a o, H a = some o → H' a = some o
theorem Sub3.refl {H : Hp3} : Sub3 H H := fun _ _ h => h
theorem Sub3.trans {H H1 H2 : Hp3} (a : Sub3 H H1) (b : Sub3 H1 H2) : Sub3 H H2 := fun c o h => b c o (a c o h)
theorem Sub3.new {H : Hp3} {p : Addr} {o : O3} (h : H p = none) : Sub3 H (up3 H p o) := fun a u e => by rw [up3_ne (ne3n e h)]; exact e
theorem SimH.sub {K : PySem.W.Frag} {H3 H3' : Hp3} {H : Hp} (s : SimH K H3' H) (h : Sub3 H3 H3') : SimH K H3 H := fun a o e => s a o (h a o e)
def Fin3 (Q : VK3) : VK3 := fun v H => ∃ H', Sub3 H' H ∧ Q v H'
theorem Fin3.of {Q : VK3} {v : T} {H H' : Hp3} (h : Sub3 H' H) (q : Q v H') : Fin3 Q v H := ⟨H', h, q⟩
def start3 (N : List Str) (ts : List T) : St3 := ts.map some ++ List.replicate (N.length - ts.length) none
theorem start_sim {K : PySem.W.Frag} {H : Hp} {N : List Str} {ts : List T} {vs : List V} (r : Reps K H ts vs) : SimS K H (start3 N ts) (L2.start N vs) := by
  refine ⟨by simp [start3, L2.start, r.length], fun i t e => ?_⟩
  unfold start3 at e
  unfold L2.start
  have hl := r.length
  by_cases hi : i < ts.length
  · rw [List.getElem?_append_left (by simpa using hi), List.getElem?_map] at e
    rw [List.getElem?_append_left (by rw [List.length_map]; omega), List.getElem?_map]
    cases q : ts[i]? with
    | none => rw [q] at e; cases e
    | some u =>
      rw [q] at e; cases e
      obtain ⟨v, ev, rv⟩ := r.get q
      exact ⟨v, by rw [ev]; rfl, rv⟩
  · rw [List.getElem?_append_right (by simpa using hi), List.getElem?_replicate] at e
    split at e <;> cases e
section
variable {X : Cx} {k : Nat} {f : Addr} {fd : FuncData} {ps : List Str} {sp : Sp3} {x : Str} {p pos : Pos} {e : Expr} {es : List Expr} {t : TA3}
def FnOk3 (P : Program) (w : World) (K : PySem.W.Frag) (mg : Str → Option Value) (base : Heap) (k : Nat) (f : Addr) (fd : FuncData) (ps : List Str) (sp : Sp3) : Prop := FnOk P w K mg base CX0 k f fd ps (lftSp K sp)
theorem FnOk3.mono {P : Program} {w : World} {K : PySem.W.Frag} {mg : Str → Option Value} {base : Heap} {j k : Nat} (F : FnOk3 P w K mg base j f fd ps sp) (h : j ≤ k) : FnOk3 P w K mg base k f fd ps sp := FnOk.mono F h
def tCall3 (sp : Sp3) (t : TA3) : TE3 := fun σ H Q => t σ H fun vs H1 => sp vs H1 Q
theorem e3_call (F : FnOk3 X.prog X.w X.K X.mg X.base k f fd ps sp) (hr : Room k X.A) (hg : Gl X x) (hm : X.mg x = some (.ref f)) (hk : PySem.W.keepIn X.K (.ref f) = true) (hb : Binds X.K fd ps [])
    (ha : PA3 X (e :: es) t) (hdb : (x == ("__debug__" : Str)) = false := by decide) (he : starEach (e :: es) X.env = (false, eval e X.env) :: starEach es X.env := by rfl) (hpl : (backTo pos (starEach es X.env)).any (·.1) = false := by rfl) :
    PE3 X (.Call (.Name x p) (e :: es) [] pos) (tCall3 sp t) := by
  refine PE.imp (pe_call (dvs := []) (E := E0) F hr hg hm hk hb .nil pass0 ha hdb he hpl) ?_
  rintro σ H Q ⟨σ3, H3, Q3, ss, sh, h, k⟩
  refine ⟨σ3, H3, _, ss, sh, h, fun vs H' ts H3' le sh' r q => ?_⟩
  show lftSp X.K sp (vs ++ []) H' Q E0
  rw [List.append_nil]
  exact ⟨ts, H3', Q3, r, sh', q, k.at le⟩
/-- a def by its body -/
theorem fn3 {P : Program} {w : World} {K : PySem.W.Frag} {mg : Str → Option Value} {base : Heap} {qual : Str} {st : Stmt} {N : List Str} (F : Fun K x qual st f fd) (S : FnScope N ps (defScope st)) (len : ∀ ts H Q, sp ts H Q → ts.length = ps.length)
    (hbody : ∀ (cdv : Value) (A : Around) (outer : List Env) (s : Shared) (H : Hp) (E : XK) (ts : List T) (H3 : Hp3) (Q : VK3), Room k (A.deeper (envOfC qual (defScope st) s.heap.objs.size f cdv)) → sp ts H3 Q →
      ∃ t, PSs3 (cxOf CX0 P w K mg base N qual (defScope st) f cdv A outer s H E).nox (defBody st) t ∧ t { nx := fun _ H' => Fin3 Q .non H', rt := Fin3 Q } (start3 N ts) H3) : FnOk3 P w K mg base (k + 1) f fd ps sp := by
  refine F.ok S (fun vs H Q E ⟨ts, H3, Q3, r, sh, q, k⟩ => by rw [← r.length]; exact len _ _ _ q) fun cdv A outer s H vs Q E hr ⟨ts, H3, Q3, r, sh, q, k⟩ => ?_
  obtain ⟨t, ht, hq⟩ := hbody cdv A outer s H E ts H3 Q3 hr q
  exact ⟨_, ht, start3 N ts, H3, _, start_sim r, sh, hq, fun σ' H' σ3' H3' le ss' sh' ⟨H4, sb, q⟩ => k _ _ _ _ le (sh'.sub sb) .ofNon q, fun v H' t H3' le sh' rv ⟨H4, sb, q⟩ => k _ _ _ _ le (sh'.sub sb) rv q, fun _ _ _ _ _ _ _ z => z, fun _ _ _ _ _ _ _ z => z⟩
end
end L3

set_option Elab.async false
set_option linter.all false
set_option maxRecDepth 100000
set_option maxHeartbeats 1000000
namespace L3
open PySem PySem.Spec PyProof.Rows L2

noncomputable instance : DecidableEq T := fun a b => Classical.propDecidable (a = b)

/-! ### equality of plain trees -/
/-- no bools, no objects; tuples at most d deep -/
def pl : Nat → T → Bool
  | _, .non => true
  | _, .int _ => true
  | _, .str _ => true
  | d + 1, .tup ts => ts.all (pl d)
  | _, _ => false
theorem pl_succ : ∀ {d : Nat} {t : T}, pl d t = true → pl (d + 1) t = true
  | _, .non, _ => rfl
  | _, .int _, _ => rfl
  | _, .str _, _ => rfl
  | 0, .tup _, h => by simp [pl] at h
  | d + 1, .tup ts, h => by
    simp only [pl, List.all_eq_true] at h ⊢
    exact fun t ht => pl_succ (h t ht)
  | 0, .bl _, h => by simp [pl] at h
  | _ + 1, .bl _, h => by simp [pl] at h
  | 0, .ref _, h => by simp [pl] at h
  | _ + 1, .ref _, h => by simp [pl] at h
  | 0, .ty _, h => by simp [pl] at h
  | _ + 1, .ty _, h => by simp [pl] at h
theorem pl_le {d e : Nat} {t : T} (h : pl d t = true) (le : d ≤ e) : pl e t = true := by
  induction le with
  | refl => exact h
  | step _ ih => exact pl_succ ih
section
variable {X : Cx} {pins : List (Addr × Obj)} {σ : L2.St} {H : Hp} {s : Shared}
theorem reps_ext (f : ∀ (a b : T) (v : V), Rep X.K H a v → Rep X.K H b v → (pl 0 a = true ∨ True) → a = b) : ∀ {ts us : List T} {xs : List V}, Reps X.K H ts xs → Reps X.K H us xs → ts = us
  | [], us, xs, h, h' => by
    rw [h.inv0] at h'
    cases us with
    | nil => rfl
    | cons u us => obtain ⟨_, _, e, _⟩ := h'.inv; cases e
  | t :: ts, us, xs, h, h' => by
    obtain ⟨v, r, rfl, a, b⟩ := h.inv
    cases us with
    | nil => exact absurd h'.inv0 (by simp)
    | cons u us =>
      obtain ⟨v', r', e, a', b'⟩ := h'.inv
      cases e
      rw [f t u v a a' (.inr trivial), reps_ext f b b']
theorem rep_inj (I : Inv X pins σ H s) : ∀ (d : Nat) (x y : T) (v : V), pl d x = true → pl d y = true → Rep X.K H x v → Rep X.K H y v → x = y := by
  intro d
  induction d with
  | zero =>
    intro x y v px py rx ry
    cases x <;> cases y <;> first
      | rfl
      | (simp only [Rep] at rx ry; subst rx; cases ry <;> rfl)
      | (simp [pl] at px; done)
      | (simp [pl] at py; done)
  | succ d ih =>
    intro x y v px py rx ry
    cases x with
    | tup ts =>
      cases y with
      | tup us =>
        obtain ⟨a, xs, rfl, sq, r⟩ := rx.tup
        obtain ⟨b, ys, e, sq', r'⟩ := ry.tup
        cases e
        have := I.tuple_inj sq sq'
        subst this
        simp only [pl, List.all_eq_true] at px py
        congr 1
        have key : ∀ (ts us : List T) (xs : List V), (∀ t ∈ ts, pl d t = true) → (∀ t ∈ us, pl d t = true) → Reps X.K H ts xs → Reps X.K H us xs → ts = us := by
          intro ts
          induction ts with
          | nil =>
            intro us xs _ _ h h'
            rw [h.inv0] at h'
            cases us with
            | nil => rfl
            | cons u us => obtain ⟨_, _, e, _⟩ := h'.inv; cases e
          | cons t ts ih2 =>
            intro us xs p1 p2 h h'
            obtain ⟨v, r, rfl, a, b⟩ := h.inv
            cases us with
            | nil => exact absurd h'.inv0 (by simp)
            | cons u us =>
              obtain ⟨v', r', e, a', b'⟩ := h'.inv
              cases e
              rw [ih t u v (p1 t List.mem_cons_self) (p2 u List.mem_cons_self) a a', ih2 us r (fun t ht => p1 t (List.mem_cons_of_mem _ ht)) (fun t ht => p2 t (List.mem_cons_of_mem _ ht)) b b']
        exact key ts us xs px py r r'
      | _ => first | (simp only [Rep] at rx ry; obtain ⟨a, xs, e, _⟩ := rx; subst e; cases ry; done) | (simp [pl] at py; done)
    | _ => cases y <;> first
      | rfl
      | (simp only [Rep] at rx ry; subst rx; cases ry <;> rfl)
      | (simp [pl] at px; done)
      | (simp [pl] at py; done)
      | (simp only [Rep] at rx ry; obtain ⟨a, xs, e, _⟩ := ry; subst e; cases rx; done)
theorem units_in1 (A : Around) : A.in1.units = A.units + 1 := by rfl
theorem all_eq_dec {α : Type} [DecidableEq (Option α)] (ts us : List α) : ((List.range (min ts.length us.length)).all (fun j => decide (ts[j]? = us[j]?)) && ts.length == us.length) = true ↔ ts = us := by
  rw [Bool.and_eq_true, List.all_eq_true, beq_iff_eq]
  constructor
  · rintro ⟨h, hl⟩
    refine List.ext_getElem? fun i => ?_
    by_cases hi : i < ts.length
    · exact of_decide_eq_true (h i (List.mem_range.mpr (by omega)))
    · rw [List.getElem?_eq_none (by omega), List.getElem?_eq_none (by omega)]
  · rintro rfl
    exact ⟨fun i _ => by simp, rfl⟩
theorem vget {us : List Value} {i : Nat} (h : i < us.toArray.size) {v : Value} (e : us[i]? = some v) : us.toArray[i] = v := by
  have : us.toArray[i]? = some v := by simpa using e
  rw [Array.getElem?_eq_getElem h] at this
  exact Option.some.inj this
theorem eq_tree (I : Inv X pins σ H s) : ∀ (d : Nat) (A : Around) (x y : T) (vx vy : V) (u v : Value), pl d x = true → pl d y = true → Rep X.K H x vx → Rep X.K H y vy → RelV vx u → RelV vy v → A.units + d < cLine → SeqAt.EqAt A s u v (decide (x = y)) := by
  have scal : ∀ (A : Around) (x y : T) (vx vy : V) (u v : Value), pl 0 x = true → pl 0 y = true → Rep X.K H x vx → Rep X.K H y vy → RelV vx u → RelV vy v → SeqAt.EqAt A s u v (decide (x = y)) := by
    intro A x y vx vy u v px py rx ry ru rv
    cases x with
    | non =>
      cases rx.non; cases ru
      cases y with
      | non => cases ry.non; cases rv; simp only [decide_true]; exact SeqAt.EqAt.same _
      | int j => cases ry.int; obtain ⟨t', rfl⟩ := rv; rw [decide_eq_false (by simp)]; exact SeqAt.EqAt.none_int _ _
      | str j => cases ry.str; obtain ⟨t', rfl⟩ := rv; rw [decide_eq_false (by simp)]; exact SeqAt.EqAt.none_str _ _
      | _ => simp [pl] at py
    | int i =>
      cases rx.int; obtain ⟨t, rfl⟩ := ru
      cases y with
      | non => cases ry.non; cases rv; rw [decide_eq_false (by simp)]; exact SeqAt.EqAt.int_none _ _
      | int j =>
        cases ry.int; obtain ⟨t', rfl⟩ := rv
        rw [show decide (T.int i = T.int j) = (i == j) by by_cases h : i = j <;> simp [h]]
        exact SeqAt.EqAt.int_int _ _ _ _
      | str j => cases ry.str; obtain ⟨t', rfl⟩ := rv; rw [decide_eq_false (by simp)]; exact SeqAt.EqAt.int_str _ _ _ _
      | _ => simp [pl] at py
    | str i =>
      cases rx.str; obtain ⟨t, rfl⟩ := ru
      cases y with
      | non => cases ry.non; cases rv; rw [decide_eq_false (by simp)]; exact SeqAt.EqAt.str_none _ _
      | int j => cases ry.int; obtain ⟨t', rfl⟩ := rv; rw [decide_eq_false (by simp)]; exact SeqAt.EqAt.str_int _ _ _ _
      | str j =>
        cases ry.str; obtain ⟨t', rfl⟩ := rv
        rw [show decide (T.str i = T.str j) = (i == j) by by_cases h : i = j <;> simp [h]]
        exact SeqAt.EqAt.str_str _ _ _ _
      | _ => simp [pl] at py
    | _ => simp [pl] at px
  intro d
  induction d with
  | zero => intro A x y vx vy u v px py rx ry ru rv _; exact scal A x y vx vy u v px py rx ry ru rv
  | succ d ih =>
    intro A x y vx vy u v px py rx ry ru rv hu
    have hu0 : A.units < cLine := by omega
    cases x with
    | tup ts =>
      obtain ⟨a, xs, rfl, sq, r⟩ := rx.tup
      cases ru
      obtain ⟨its, rv1, ht, _⟩ := I.tuple sq
      cases y with
      | tup us =>
        obtain ⟨b, ys, rfl, sq', r'⟩ := ry.tup
        cases rv
        obtain ⟨its', rv2, ht', _⟩ := I.tuple sq'
        by_cases hab : a = b
        · subst hab
          have e : T.tup ts = T.tup us := rep_inj I (d + 1) _ _ (.ref a) px py (.ofTup sq r) (.ofTup sq' r')
          rw [e, decide_eq_true rfl]
          exact SeqAt.EqAt.same _
        · have l1 := r.length
          have l2 := r'.length
          have l3 := rv1.length
          have l4 := rv2.length
          have key := SeqAt.RcAt.tuples (A := A) (s := s) (e := fun j => decide (ts[j]? = us[j]?)) (show s.heap.IsTuple a its.toArray from ht) (show s.heap.IsTuple b its'.toArray from ht') hu0 (fun j h1 h2 => by
            rw [List.size_toArray] at h1 h2
            have g1 : j < ts.length := by omega
            have g2 : j < us.length := by omega
            obtain ⟨p1, e1, q1⟩ := r.get (List.getElem?_eq_getElem g1)
            obtain ⟨p2, e2, q2⟩ := r'.get (List.getElem?_eq_getElem g2)
            obtain ⟨z1, f1, w1⟩ := rv1.get e1
            obtain ⟨z2, f2, w2⟩ := rv2.get e2
            rw [vget _ f1, vget _ f2, List.getElem?_eq_getElem g1, List.getElem?_eq_getElem g2]
            simp only [pl, List.all_eq_true] at px py
            have := ih A.in1 ts[j] us[j] p1 p2 z1 z2 (px _ (List.getElem_mem g1)) (py _ (List.getElem_mem g2)) q1 q2 w1 w2 (by rw [units_in1]; omega)
            rw [show decide (some ts[j] = some us[j]) = decide (ts[j] = us[j]) by by_cases h : ts[j] = us[j] <;> simp [h]]
            exact this)
          have eb : ((List.range (min its.toArray.size its'.toArray.size)).all (fun j => decide (ts[j]? = us[j]?)) && its.toArray.size == its'.toArray.size) = decide (T.tup ts = T.tup us) := by
            rw [List.size_toArray, List.size_toArray, ← l3, ← l1, ← l4, ← l2, Bool.eq_iff_iff, all_eq_dec, decide_eq_true_iff]
            constructor
            · rintro rfl; rfl
            · intro h; injection h
          rw [eb] at key
          exact .of_refs hab key
      | non => cases ry.non; cases rv; rw [decide_eq_false (by simp)]; exact SeqAt.EqAt.tuple_none ht hu0
      | int j => cases ry.int; obtain ⟨t', rfl⟩ := rv; rw [decide_eq_false (by simp)]; exact SeqAt.EqAt.tuple_int _ _ ht hu0
      | str j => cases ry.str; obtain ⟨t', rfl⟩ := rv; rw [decide_eq_false (by simp)]; exact SeqAt.EqAt.tuple_str _ _ ht hu0
      | _ => simp [pl] at py
    | non =>
      cases y with
      | tup us =>
        obtain ⟨b, ys, rfl, sq', r'⟩ := ry.tup
        cases rv
        obtain ⟨its', rv2, ht', _⟩ := I.tuple sq'
        cases rx.non; cases ru; rw [decide_eq_false (by simp)]; exact SeqAt.EqAt.none_tuple ht' hu0
      | non => exact scal A _ _ vx vy u v rfl rfl rx ry ru rv
      | int j => exact scal A _ _ vx vy u v rfl rfl rx ry ru rv
      | str j => exact scal A _ _ vx vy u v rfl rfl rx ry ru rv
      | _ => simp [pl] at py
    | int i =>
      cases y with
      | tup us =>
        obtain ⟨b, ys, rfl, sq', r'⟩ := ry.tup
        cases rv
        obtain ⟨its', rv2, ht', _⟩ := I.tuple sq'
        cases rx.int; obtain ⟨t, rfl⟩ := ru; rw [decide_eq_false (by simp)]; exact SeqAt.EqAt.int_tuple _ _ ht' hu0
      | non => exact scal A _ _ vx vy u v rfl rfl rx ry ru rv
      | int j => exact scal A _ _ vx vy u v rfl rfl rx ry ru rv
      | str j => exact scal A _ _ vx vy u v rfl rfl rx ry ru rv
      | _ => simp [pl] at py
    | str i =>
      cases y with
      | tup us =>
        obtain ⟨b, ys, rfl, sq', r'⟩ := ry.tup
        cases rv
        obtain ⟨its', rv2, ht', _⟩ := I.tuple sq'
        cases rx.str; obtain ⟨t, rfl⟩ := ru; rw [decide_eq_false (by simp)]; exact SeqAt.EqAt.str_tuple _ _ ht' hu0
      | non => exact scal A _ _ vx vy u v rfl rfl rx ry ru rv
      | int j => exact scal A _ _ vx vy u v rfl rfl rx ry ru rv
      | str j => exact scal A _ _ vx vy u v rfl rfl rx ry ru rv
      | _ => simp [pl] at py
    | _ => simp [pl] at px
end
end L3

set_option Elab.async false
set_option linter.all false
set_option maxRecDepth 100000
set_option maxHeartbeats 1000000
namespace L3
open PySem PySem.Spec PyProof.Rows L2

/-! ### ints -/
def rI3 (C : Int → Int → Prop) (g : Int → Int → T) : R3 := fun x y H Q => match x, y with
  | .int i, .int j => C i j ∧ Q (g i j) H
  | _, _ => False
def rI03 (g : Int → Int → T) : R3 := fun x y H Q => match x, y with
  | .int i, .int j => Q (g i j) H
  | _, _ => False
section
variable {X : Cx}
theorem o3_I {f : Value → Value → Sem Value} {C : Int → Int → Prop} {g : Int → Int → T} {g' : Int → Int → V} (h : OpR X f (rI C g')) (hg : ∀ i j H, Rep X.K H (g i j) (g' i j)) : OpR3 X f (rI3 C g) := by
  refine OpR.imp h ?_
  rintro x y H Q ⟨tx, ty, H3, Q3, rx, ry, sh, h, k⟩
  cases tx with
  | int i =>
    cases ty with
    | int j => exact ⟨i, j, rx.int, ry.int, h.1, k _ _ _ _ .refl sh (hg i j H) h.2⟩
    | _ => exact h.elim
  | _ => exact h.elim
theorem o3_I0 {f : Value → Value → Sem Value} {g : Int → Int → T} {g' : Int → Int → V} (h : OpR X f (rI0 g')) (hg : ∀ i j H, Rep X.K H (g i j) (g' i j)) : OpR3 X f (rI03 g) := by
  refine OpR.imp h ?_
  rintro x y H Q ⟨tx, ty, H3, Q3, rx, ry, sh, h, k⟩
  cases tx with
  | int i =>
    cases ty with
    | int j => exact ⟨i, j, rx.int, ry.int, k _ _ _ _ .refl sh (hg i j H) h⟩
    | _ => exact h.elim
  | _ => exact h.elim
def CDiv3 (_ j : Int) : Prop := 0 < j ∧ j.natAbs.log2 < 9000
theorem op_fdivL : OpR X (binaryOp .FloorDiv) (rI CDiv3 fun i j => .int (i / j)) := opI fun i j _ _ _ _ _ hc q => by
  have e : i / j = i.fdiv j := (Int.fdiv_eq_ediv_of_nonneg i (Int.le_of_lt hc.1)).symm
  rw [e] at q
  exact floordiv_int (Int.ne_of_gt hc.1) q (.inl (PyProof.noPylong_of_log2 hc.2))
theorem o3_sub : OpR3 X (binaryOp .Sub) (rI03 fun i j => .int (i - j)) := o3_I0 op_sub fun _ _ _ => .ofInt
theorem o3_fdiv : OpR3 X (binaryOp .FloorDiv) (rI3 CDiv3 fun i j => .int (i / j)) := o3_I op_fdivL fun _ _ _ => .ofInt
theorem o3_mod : OpR3 X (binaryOp .Mod) (rI3 (fun _ j => 0 < j) fun i j => .int (i % j)) := o3_I op_mod fun _ _ _ => .ofInt
theorem o3_pow : OpR3 X (binaryOp .Pow) (rI3 CPow fun i j => .int (i ^ j.toNat)) := o3_I op_pow fun _ _ _ => .ofInt
theorem o3_lt : OpR3 X (compareOp .Lt) (rI03 fun i j => .bl (decide (i < j))) := o3_I0 op_lt fun _ _ _ => .ofBl
theorem o3_le : OpR3 X (compareOp .LtE) (rI03 fun i j => .bl (decide (i ≤ j))) := o3_I0 op_le fun _ _ _ => .ofBl
theorem o3_gt : OpR3 X (compareOp .Gt) (rI03 fun i j => .bl (decide (j < i))) := o3_I0 op_gt fun _ _ _ => .ofBl
theorem o3_ge : OpR3 X (compareOp .GtE) (rI03 fun i j => .bl (decide (j ≤ i))) := o3_I0 op_ge fun _ _ _ => .ofBl
/-- a * b: ints -/
theorem o3_mul : OpR3 X (binaryOp .Mult) (rI3 CMul fun i j => .int (i * j)) := o3_I op_mul fun _ _ _ => .ofInt
/-- a + b: ints, texts, lists, tuples -/
def rAdd3 : R3 := fun x y H Q => match x, y with
  | .int i, .int j => Q (.int (i + j)) H
  | .str i, .str j => i.length + j.length ≤ sizeLine ∧ Q (.str (i ++ j)) H
  | .ref a, .ref b => match H a, H b with
    | some (.lst xs), some (.lst ys) => xs.length + ys.length ≤ sizeLine ∧ ∀ p, H p = none → Q (.ref p) (up3 H p (.lst (xs ++ ys)))
    | _, _ => False
  | .tup xs, .tup ys => xs ≠ [] ∧ xs.length + ys.length ≤ sizeLine ∧ Q (.tup (xs ++ ys)) H
  | _, _ => False
theorem o3_add : OpR3 X (binaryOp .Add) rAdd3 := by
  refine OpR.imp (op_add.or (op_add_str.or (op_cat.or op_catT))) ?_
  rintro x y H Q ⟨tx, ty, H3, Q3, rx, ry, sh, h, k⟩
  cases tx with
  | int i =>
    cases ty with
    | int j => exact .inl ⟨i, j, rx.int, ry.int, k _ _ _ _ .refl sh .ofInt h⟩
    | _ => exact h.elim
  | str i =>
    cases ty with
    | str j => exact .inr (.inl ⟨i, j, rx.str, ry.str, h.1, k _ _ _ _ .refl sh .ofStr h.2⟩)
    | _ => exact h.elim
  | ref a =>
    cases ty with
    | ref b =>
      have h' : (match H3 a, H3 b with
        | some (.lst xs), some (.lst ys) => xs.length + ys.length ≤ sizeLine ∧ ∀ p, H3 p = none → Q3 (.ref p) (up3 H3 p (.lst (xs ++ ys)))
        | _, _ => False) := h
      split at h'
      · rename_i xs ys e1 e2
        obtain ⟨vs, g1, r1⟩ := sh a _ e1
        obtain ⟨ws, g2, r2⟩ := sh b _ e2
        refine .inr (.inr (.inl ⟨a, b, vs, ws, rx.ref, ry.ref, g1, g2, by rw [← r1.length, ← r2.length]; exact h'.1, fun p hp => ?_⟩))
        exact k _ _ _ _ (upd_tupLe hp) (sh.newLst hp (r1.append r2)) .ofRef (h'.2 p (sh.fresh hp))
      · exact h'.elim
    | _ => exact h.elim
  | tup xs =>
    cases ty with
    | tup ys =>
      obtain ⟨a, vs, rfl, s1, r1⟩ := rx.tup
      obtain ⟨b, ws, rfl, s2, r2⟩ := ry.tup
      refine .inr (.inr (.inr ⟨a, b, vs, ws, rfl, rfl, s1, s2, fun z => h.1 ?_, by rw [← r1.length, ← r2.length]; exact h.2.1, fun hw => ?_, fun hw p hp => ?_⟩))
      · have := r1.length; rw [z] at this; exact List.eq_nil_of_length_eq_zero this
      · have e : ys = [] := by have := r2.length; rw [hw] at this; exact List.eq_nil_of_length_eq_zero this
        have q := h.2.2
        rw [e, List.append_nil] at q
        exact k _ _ _ _ .refl sh (.ofTup s1 r1) q
      · exact k _ _ _ _ (upd_tupLe hp) (sh.new hp) (SimH.newTup (H3 := H3) hp (r1.append r2)) h.2.2
    | _ => exact h.elim
  | _ => exact h.elim
end

/-! ### ==, !=, in, not in -/
section
variable {X : Cx} {pins : List (Addr × Obj)} {σ : L2.St} {H : Hp} {s : Shared}
noncomputable def r3Eq (neg : Bool) : R3 := fun x y H Q => match x, y with
  | .int i, .int j => Q (.bl (if neg then !decide (i = j) else decide (i = j))) H
  | .str i, .str j => Q (.bl (if neg then !decide (i = j) else decide (i = j))) H
  | .bl i, .bl j => Q (.bl (if neg then !decide (i = j) else decide (i = j))) H
  | .non, .non => Q (.bl (if neg then false else true)) H
  | .tup xs, .tup ys => xs.all (pl 20) = true ∧ ys.all (pl 20) = true ∧ Q (.bl (if neg then !decide (xs = ys) else decide (xs = ys))) H
  | .ref a, .ref b => match H a, H b with
    | some (.lst xs), some (.lst ys) => a ≠ b ∧ xs.all (pl 20) = true ∧ ys.all (pl 20) = true ∧ Q (.bl (if neg then !decide (xs = ys) else decide (xs = ys))) H
    | _, _ => False
  | _, _ => False
/-- items of two rows, one by one -/
theorem items_eq (I : Inv X pins σ H s) {ts us : List T} {xs ys : List V} {its its' : List Value} {A : Around} (hu : A.units + 30 < cLine) (px : ts.all (pl 20) = true) (py : us.all (pl 20) = true) (r : Reps X.K H ts xs) (r' : Reps X.K H us ys) (rv1 : Vals xs its) (rv2 : Vals ys its') :
    ∀ j (h1 : j < its.toArray.size) (h2 : j < its'.toArray.size), SeqAt.EqAt A.in1 s its.toArray[j] its'.toArray[j] (decide (ts[j]? = us[j]?)) := fun j h1 h2 => by
  have l1 := r.length
  have l2 := r'.length
  have l3 := rv1.length
  have l4 := rv2.length
  rw [List.size_toArray] at h1 h2
  have g1 : j < ts.length := by omega
  have g2 : j < us.length := by omega
  obtain ⟨p1, e1, q1⟩ := r.get (List.getElem?_eq_getElem g1)
  obtain ⟨p2, e2, q2⟩ := r'.get (List.getElem?_eq_getElem g2)
  obtain ⟨z1, f1, w1⟩ := rv1.get e1
  obtain ⟨z2, f2, w2⟩ := rv2.get e2
  rw [vget _ f1, vget _ f2, List.getElem?_eq_getElem g1, List.getElem?_eq_getElem g2]
  rw [List.all_eq_true] at px py
  have := eq_tree I 20 A.in1 ts[j] us[j] p1 p2 z1 z2 (px _ (List.getElem_mem g1)) (py _ (List.getElem_mem g2)) q1 q2 w1 w2 (by rw [units_in1]; omega)
  rw [show decide (some ts[j] = some us[j]) = decide (ts[j] = us[j]) by by_cases h : ts[j] = us[j] <;> simp [h]]
  exact this
theorem rows_dec {ts us : List T} : ((List.range (min ts.length us.length)).all (fun j => decide (ts[j]? = us[j]?)) && ts.length == us.length) = decide (ts = us) := by
  rw [Bool.eq_iff_iff, all_eq_dec, decide_eq_true_iff]
theorem o3_eq (hu : X.A.units + 30 < cLine) : OpR3 X (compareOp .Eq) (r3Eq false) := by
  intro pins s σ H x y v u Q I rv ru h
  obtain ⟨tx, ty, H3, Q3, rx, ry, sh, h, k⟩ := h
  have sc : ∀ {x y : V}, scal x y = true → RelV x v → RelV y u → (k : Q (.bl (decide (x = y))) H) → wpAny (model X.prog X.w) X.A (compareOp .Eq v u) (EP X pins σ Q) X.xe s := fun {x y} a r1 r2 q => op_eq pins s σ H x y v u Q I r1 r2 ⟨a, q⟩
  cases tx with
  | int i =>
    cases ty with
    | int j =>
      rw [rx.int] at rv; rw [ry.int] at ru
      exact sc rfl rv ru (k _ _ _ _ .refl sh (by rw [show decide (V.int i = V.int j) = decide (i = j) by by_cases e : i = j <;> simp [e]]; exact .ofBl) h)
    | _ => exact h.elim
  | str i =>
    cases ty with
    | str j =>
      rw [rx.str] at rv; rw [ry.str] at ru
      exact sc rfl rv ru (k _ _ _ _ .refl sh (by rw [show decide (V.str i = V.str j) = decide (i = j) by by_cases e : i = j <;> simp [e]]; exact .ofBl) h)
    | _ => exact h.elim
  | bl i =>
    cases ty with
    | bl j =>
      rw [rx.bl] at rv; rw [ry.bl] at ru
      exact sc rfl rv ru (k _ _ _ _ .refl sh (by rw [show decide (V.bl i = V.bl j) = decide (i = j) by by_cases e : i = j <;> simp [e]]; exact .ofBl) h)
    | _ => exact h.elim
  | non =>
    cases ty with
    | non =>
      rw [rx.non] at rv; rw [ry.non] at ru
      exact sc rfl rv ru (k _ _ _ _ .refl sh (by rw [show decide (V.non = V.non) = true by simp]; exact .ofBl) h)
    | _ => exact h.elim
  | tup ts =>
    cases ty with
    | tup us =>
      obtain ⟨a, xs, rfl, sq, r⟩ := rx.tup
      obtain ⟨b, ys, rfl, sq', r'⟩ := ry.tup
      cases rv; cases ru
      obtain ⟨its, rv1, ht, _⟩ := I.tuple sq
      obtain ⟨its', rv2, ht', _⟩ := I.tuple sq'
      refine SeqAt.eq_tupleAt (e := fun j => decide (ts[j]? = us[j]?)) ht ht' (by omega) (items_eq I hu h.1 h.2.1 r r' rv1 rv2) ⟨.bl _, H, I, rfl, ?_⟩
      rw [List.size_toArray, List.size_toArray, ← rv1.length, ← rv2.length, ← r.length, ← r'.length, rows_dec]
      exact k _ _ _ _ .refl sh .ofBl h.2.2
    | _ => exact h.elim
  | ref a =>
    cases ty with
    | ref b =>
      have h' : (match H3 a, H3 b with
        | some (.lst xs), some (.lst ys) => a ≠ b ∧ xs.all (pl 20) = true ∧ ys.all (pl 20) = true ∧ Q3 (.bl (decide (xs = ys))) H3
        | _, _ => False) := h
      split at h'
      · rename_i ts us e1 e2
        obtain ⟨xs, g1, r⟩ := sh a _ e1
        obtain ⟨ys, g2, r'⟩ := sh b _ e2
        cases rx.ref; cases ry.ref; cases rv; cases ru
        obtain ⟨its, rv1, ht, _⟩ := I.list (X := X) (.of g1)
        obtain ⟨its', rv2, ht', _⟩ := I.list (X := X) (.of g2)
        have hl : its.length = ts.length := by rw [← rv1.length, ← r.length]
        have hl' : its'.length = us.length := by rw [← rv2.length, ← r'.length]
        by_cases hsz : ts.length = us.length
        · refine SeqAt.eq_listAt (e := fun j => decide (ts[j]? = us[j]?)) ht.isList ht'.isList (by simp; omega) (by omega) (items_eq I hu h'.2.1 h'.2.2.1 r r' rv1 rv2) ⟨.bl _, H, I, rfl, ?_⟩
          have e := rows_dec (ts := ts) (us := us)
          rw [← hsz, Nat.min_self, beq_self_eq_true, Bool.and_true] at e
          rw [List.size_toArray, hl, e]
          exact k _ _ _ _ .refl sh .ofBl h'.2.2.2
        · refine SeqAt.eq_list_lengthsAt ht.isList ht'.isList (by simp; omega) (by omega) ⟨.bl false, H, I, rfl, ?_⟩
          have e : decide (ts = us) = false := decide_eq_false fun z => hsz (by rw [z])
          have q := h'.2.2.2
          rw [e] at q
          exact k _ _ _ _ .refl sh .ofBl q
      · exact h'.elim
    | _ => exact h.elim
  | _ => exact h.elim
theorem o3_ne (hu : X.A.units + 30 < cLine) : OpR3 X (compareOp .NotEq) (r3Eq true) := by
  intro pins s σ H x y v u Q I rv ru h
  obtain ⟨tx, ty, H3, Q3, rx, ry, sh, h, k⟩ := h
  have sc : ∀ {x y : V}, scal x y = true → RelV x v → RelV y u → (k : Q (.bl (!decide (x = y))) H) → wpAny (model X.prog X.w) X.A (compareOp .NotEq v u) (EP X pins σ Q) X.xe s := fun {x y} a r1 r2 q => op_ne pins s σ H x y v u Q I r1 r2 ⟨a, q⟩
  cases tx with
  | int i =>
    cases ty with
    | int j =>
      rw [rx.int] at rv; rw [ry.int] at ru
      exact sc rfl rv ru (k _ _ _ _ .refl sh (by rw [show decide (V.int i = V.int j) = decide (i = j) by by_cases e : i = j <;> simp [e]]; exact .ofBl) h)
    | _ => exact h.elim
  | str i =>
    cases ty with
    | str j =>
      rw [rx.str] at rv; rw [ry.str] at ru
      exact sc rfl rv ru (k _ _ _ _ .refl sh (by rw [show decide (V.str i = V.str j) = decide (i = j) by by_cases e : i = j <;> simp [e]]; exact .ofBl) h)
    | _ => exact h.elim
  | bl i =>
    cases ty with
    | bl j =>
      rw [rx.bl] at rv; rw [ry.bl] at ru
      exact sc rfl rv ru (k _ _ _ _ .refl sh (by rw [show decide (V.bl i = V.bl j) = decide (i = j) by by_cases e : i = j <;> simp [e]]; exact .ofBl) h)
    | _ => exact h.elim
  | non =>
    cases ty with
    | non =>
      rw [rx.non] at rv; rw [ry.non] at ru
      exact sc rfl rv ru (k _ _ _ _ .refl sh (by rw [show decide (V.non = V.non) = true by simp]; exact .ofBl) h)
    | _ => exact h.elim
  | tup ts =>
    cases ty with
    | tup us =>
      obtain ⟨a, xs, rfl, sq, r⟩ := rx.tup
      obtain ⟨b, ys, rfl, sq', r'⟩ := ry.tup
      cases rv; cases ru
      obtain ⟨its, rv1, ht, _⟩ := I.tuple sq
      obtain ⟨its', rv2, ht', _⟩ := I.tuple sq'
      refine SeqAt.RcNeAt.tuples (e := fun j => decide (ts[j]? = us[j]?)) ht ht' (by omega) (items_eq I hu h.1 h.2.1 r r' rv1 rv2) _ _ _ _ ⟨.bl _, H, I, rfl, ?_⟩
      rw [List.size_toArray, List.size_toArray, ← rv1.length, ← rv2.length, ← r.length, ← r'.length, rows_dec]
      exact k _ _ _ _ .refl sh .ofBl h.2.2
    | _ => exact h.elim
  | ref a =>
    cases ty with
    | ref b =>
      have h' : (match H3 a, H3 b with
        | some (.lst xs), some (.lst ys) => a ≠ b ∧ xs.all (pl 20) = true ∧ ys.all (pl 20) = true ∧ Q3 (.bl (!decide (xs = ys))) H3
        | _, _ => False) := h
      split at h'
      · rename_i ts us e1 e2
        obtain ⟨xs, g1, r⟩ := sh a _ e1
        obtain ⟨ys, g2, r'⟩ := sh b _ e2
        cases rx.ref; cases ry.ref; cases rv; cases ru
        obtain ⟨its, rv1, ht, _⟩ := I.list (X := X) (.of g1)
        obtain ⟨its', rv2, ht', _⟩ := I.list (X := X) (.of g2)
        have hl : its.length = ts.length := by rw [← rv1.length, ← r.length]
        have hl' : its'.length = us.length := by rw [← rv2.length, ← r'.length]
        by_cases hsz : ts.length = us.length
        · refine SeqAt.RcNeAt.lists (e := fun j => decide (ts[j]? = us[j]?)) ht.isList ht'.isList (by simp; omega) (by omega) (items_eq I hu h'.2.1 h'.2.2.1 r r' rv1 rv2) _ _ _ _ ⟨.bl _, H, I, rfl, ?_⟩
          have e := rows_dec (ts := ts) (us := us)
          rw [← hsz, Nat.min_self, beq_self_eq_true, Bool.and_true] at e
          rw [List.size_toArray, hl, e]
          exact k _ _ _ _ .refl sh .ofBl h'.2.2.2
        · refine SeqAt.RcNeAt.lists_lengths ht.isList ht'.isList (by simp; omega) (by omega) _ _ _ _ ⟨.bl true, H, I, rfl, ?_⟩
          have e : decide (ts = us) = false := decide_eq_false fun z => hsz (by rw [z])
          have q := h'.2.2.2
          rw [e] at q
          exact k _ _ _ _ .refl sh .ofBl q
      · exact h'.elim
    | _ => exact h.elim
  | _ => exact h.elim

/-! in -/
noncomputable def memB (neg : Bool) (x : T) (ts : List T) : Bool := if neg then !decide (x ∈ ts) else decide (x ∈ ts)
def occ (neg : Bool) (i j : Str) : Bool := if neg then !(!(Builtin.Str.occurrences j i 0 j.length 1).isEmpty) else !(Builtin.Str.occurrences j i 0 j.length 1).isEmpty
noncomputable def r3In (neg : Bool) : R3 := fun x y H Q => match y with
  | .tup ts => pl 20 x = true ∧ ts.all (pl 20) = true ∧ Q (.bl (memB neg x ts)) H
  | .ref a => match H a with
    | some (.lst ts) => pl 20 x = true ∧ ts.all (pl 20) = true ∧ Q (.bl (memB neg x ts)) H
    | some (.rol ts) => pl 20 x = true ∧ ts.all (pl 20) = true ∧ Q (.bl (memB neg x ts)) H
    | _ => False
  | .str j => match x with
    | .str i => Q (.bl (occ neg i j)) H
    | _ => False
  | _ => False
theorem any_is (I : Inv X pins σ H s) {x : T} {ts : List T} {xs : List V} {its : List Value} (px : pl 20 x = true) (pts : ts.all (pl 20) = true) (r : Reps X.K H ts xs) (rv : Vals xs its) (A : Around) (hu : A.units + 30 < cLine) {vx : V} {u : Value} (rx : Rep X.K H x vx) (ru : RelV vx u) :
    ∃ e : Value → Bool, (∀ y, y ∈ its → SeqAt.EqAt A s y u (e y)) ∧ its.any e = decide (x ∈ ts) := by
  rw [List.all_eq_true] at pts
  have own : ∀ y, y ∈ its → ∃ t v, t ∈ ts ∧ Rep X.K H t v ∧ RelV v y := fun y hy => by
    obtain ⟨i, hi, e⟩ := List.mem_iff_getElem.mp hy
    have hl := rv.length
    have e' : its[i]? = some y := by rw [List.getElem?_eq_getElem hi, e]
    have hx : xs[i]? = some xs[i] := List.getElem?_eq_getElem (by omega)
    obtain ⟨z, ez, rz⟩ := rv.get hx
    rw [e'] at ez; cases ez
    obtain ⟨t, et, rt⟩ := r.get' hx
    exact ⟨t, _, List.mem_of_getElem? et, rt, rz⟩
  have dec : ∀ t v y, t ∈ ts → Rep X.K H t v → RelV v y → (@decide (∃ v, RelV v y ∧ Rep X.K H x v) (Classical.propDecidable _) = true ↔ t = x) := fun t v y ht rt ry => by
    rw [@decide_eq_true_iff _ (Classical.propDecidable _)]
    constructor
    · rintro ⟨v', r1, r2⟩
      cases r1.inj ry
      exact rep_inj I 20 t x _ (pts t ht) px rt r2
    · rintro rfl
      exact ⟨v, ry, rt⟩
  refine ⟨fun y => @decide (∃ v, RelV v y ∧ Rep X.K H x v) (Classical.propDecidable _), fun y hy => ?_, ?_⟩
  · obtain ⟨t, v, ht, rt, ry⟩ := own y hy
    have q := eq_tree I 20 A t x v vx y u (pts t ht) px rt rx ry ru (by omega)
    have e : @decide (∃ v, RelV v y ∧ Rep X.K H x v) (Classical.propDecidable _) = decide (t = x) := by
      rw [Bool.eq_iff_iff, dec t v y ht rt ry, decide_eq_true_iff]
    show SeqAt.EqAt A s y u (@decide (∃ v, RelV v y ∧ Rep X.K H x v) (Classical.propDecidable _))
    rw [e]
    exact q
  · rw [Bool.eq_iff_iff, List.any_eq_true, decide_eq_true_iff]
    constructor
    · rintro ⟨y, hy, e⟩
      obtain ⟨t, v, ht, rt, ry⟩ := own y hy
      rw [← (dec t v y ht rt ry).mp e]
      exact ht
    · intro hx
      obtain ⟨i, hi, e⟩ := List.mem_iff_getElem.mp hx
      obtain ⟨v, ev, rvv⟩ := r.get (show ts[i]? = some x by rw [List.getElem?_eq_getElem hi, e])
      obtain ⟨y, ey, ry⟩ := rv.get ev
      exact ⟨y, List.mem_of_getElem? ey, (dec x v y hx rvv ry).mpr rfl⟩
end
end L3

set_option Elab.async false
set_option linter.all false
set_option maxRecDepth 100000
set_option maxHeartbeats 1000000
namespace L3
open PySem PySem.Spec PyProof.Rows L2

section
variable {X : Cx}
theorem o3_in (hu : X.A.units + 31 < cLine) : OpR3 X (compareOp .In) (r3In false) := by
  intro pins s σ H x y v u Q I rv ru h
  obtain ⟨tx, ty, H3, Q3, rx, ry, sh, h, k⟩ := h
  have hu' : X.A.in1.units + 30 < cLine := by rw [units_in1]; omega
  have lst : ∀ {a : Addr} {ts : List T} {xs : List V}, SqL X.K H a xs → Reps X.K H ts xs → u = .ref a → pl 20 tx = true → ts.all (pl 20) = true → Q3 (.bl (memB false tx ts)) H3 → wpAny (model X.prog X.w) X.A (compareOp .In v u) (EP X pins σ Q) X.xe s := by
    intro a ts xs sq r e p1 p2 q
    subst e
    obtain ⟨its, rvs, ht, _⟩ := I.list sq
    obtain ⟨e, he, ea⟩ := any_is I p1 p2 r rvs X.A.in1 hu' rx rv
    refine SeqAt.in_listAt e ht.isList (fun y hy => he y (by simpa using hy)) ⟨.bl _, H, I, rfl, ?_⟩
    rw [show its.toArray.any e = its.any e by simp, ea]
    exact k _ _ _ _ .refl sh .ofBl q
  cases ty with
  | tup ts =>
    obtain ⟨a, xs, rfl, sq, r⟩ := ry.tup
    cases ru
    obtain ⟨its, rvs, ht, _⟩ := I.tuple sq
    obtain ⟨e, he, ea⟩ := any_is I h.1 h.2.1 r rvs X.A.in1 hu' rx rv
    refine SeqAt.in_tupleAt e ht (fun y hy => he y (by simpa using hy)) ⟨.bl _, H, I, rfl, ?_⟩
    rw [show its.toArray.any e = its.any e by simp, ea]
    exact k _ _ _ _ .refl sh .ofBl h.2.2
  | ref a =>
    have h' : (match H3 a with
      | some (.lst ts) => pl 20 tx = true ∧ ts.all (pl 20) = true ∧ Q3 (.bl (memB false tx ts)) H3
      | some (.rol ts) => pl 20 tx = true ∧ ts.all (pl 20) = true ∧ Q3 (.bl (memB false tx ts)) H3
      | _ => False) := h
    rw [ry.ref] at ru
    split at h'
    · rename_i ts e
      obtain ⟨xs, sq, r⟩ := sh.sqL (.inl e)
      exact lst sq r ru h'.1 h'.2.1 h'.2.2
    · rename_i ts e
      obtain ⟨xs, sq, r⟩ := sh.sqL (.inr e)
      exact lst sq r ru h'.1 h'.2.1 h'.2.2
    · exact h'.elim
  | str j =>
    cases tx with
    | str i => exact op_in_str pins s σ H x y v u Q I rv ru ⟨i, j, rx.str, ry.str, k _ _ _ _ .refl sh .ofBl h⟩
    | _ => exact h.elim
  | _ => exact h.elim
theorem o3_notin (hu : X.A.units + 31 < cLine) : OpR3 X (compareOp .NotIn) (r3In true) := by
  intro pins s σ H x y v u Q I rv ru h
  obtain ⟨tx, ty, H3, Q3, rx, ry, sh, h, k⟩ := h
  have hu' : X.A.in1.units + 30 < cLine := by rw [units_in1]; omega
  have lst : ∀ {a : Addr} {ts : List T} {xs : List V}, SqL X.K H a xs → Reps X.K H ts xs → u = .ref a → pl 20 tx = true → ts.all (pl 20) = true → Q3 (.bl (memB true tx ts)) H3 → wpAny (model X.prog X.w) X.A (compareOp .NotIn v u) (EP X pins σ Q) X.xe s := by
    intro a ts xs sq r e p1 p2 q
    subst e
    obtain ⟨its, rvs, ht, _⟩ := I.list sq
    obtain ⟨e, he, ea⟩ := any_is I p1 p2 r rvs X.A.in1 hu' rx rv
    refine SeqAt.notIn_listAt e ht.isList (fun y hy => he y (by simpa using hy)) ⟨.bl _, H, I, rfl, ?_⟩
    rw [show its.toArray.any e = its.any e by simp, ea]
    exact k _ _ _ _ .refl sh .ofBl q
  cases ty with
  | tup ts =>
    obtain ⟨a, xs, rfl, sq, r⟩ := ry.tup
    cases ru
    obtain ⟨its, rvs, ht, _⟩ := I.tuple sq
    obtain ⟨e, he, ea⟩ := any_is I h.1 h.2.1 r rvs X.A.in1 hu' rx rv
    refine SeqAt.notIn_tupleAt e ht (fun y hy => he y (by simpa using hy)) ⟨.bl _, H, I, rfl, ?_⟩
    rw [show its.toArray.any e = its.any e by simp, ea]
    exact k _ _ _ _ .refl sh .ofBl h.2.2
  | ref a =>
    have h' : (match H3 a with
      | some (.lst ts) => pl 20 tx = true ∧ ts.all (pl 20) = true ∧ Q3 (.bl (memB true tx ts)) H3
      | some (.rol ts) => pl 20 tx = true ∧ ts.all (pl 20) = true ∧ Q3 (.bl (memB true tx ts)) H3
      | _ => False) := h
    rw [ry.ref] at ru
    split at h'
    · rename_i ts e
      obtain ⟨xs, sq, r⟩ := sh.sqL (.inl e)
      exact lst sq r ru h'.1 h'.2.1 h'.2.2
    · rename_i ts e
      obtain ⟨xs, sq, r⟩ := sh.sqL (.inr e)
      exact lst sq r ru h'.1 h'.2.1 h'.2.2
    · exact h'.elim
  | str j =>
    cases tx with
    | str i => exact op_notin_str pins s σ H x y v u Q I rv ru ⟨i, j, rx.str, ry.str, k _ _ _ _ .refl sh .ofBl h⟩
    | _ => exact h.elim
  | _ => exact h.elim

/-! ### o[i] -/
def oq {α : Type} (o : Option α) (Q : α → Prop) : Prop := match o with
  | some v => Q v
  | none => False
def r3Ix : R3 := fun x y H Q => match x, y with
  | .ref a, .int i => match H a with
    | some (.lst ts) => oq (atI ts i) fun t => Q t H
    | some (.rol ts) => oq (atI ts i) fun t => Q t H
    | _ => False
  | .tup ts, .int i => oq (atI ts i) fun t => Q t H
  | .str z, .int i => z.length ≤ sizeLine ∧ oq (atI z.cps.toList i) fun c => Q (.str ⟨#[c]⟩) H
  | _, _ => False
theorem atI_rep {K : PySem.W.Frag} {H : Hp} {ts : List T} {xs : List V} {i : Int} {t : T} (r : Reps K H ts xs) (h : atI ts i = some t) : ∃ v, atI xs i = some v ∧ Rep K H t v := by
  unfold atI at h ⊢
  rw [← r.length]
  cases e : ixN ts.length i with
  | none => rw [e] at h; cases h
  | some j =>
    rw [e] at h
    exact r.get h
theorem ix3 : IxR3 X r3Ix := by
  refine IxR.imp ix_seq ?_
  rintro x y H Q ⟨tx, ty, H3, Q3, rx, ry, sh, h, k⟩
  have lst : ∀ {a : Addr} {ts : List T} {xs : List V} {i : Int}, SqL X.K H a xs → Reps X.K H ts xs → x = .ref a → y = .int i → oq (atI ts i) (fun t => Q3 t H3) → rIx X.K x y H Q := by
    intro a ts xs i sq r e1 e2 q
    cases e : atI ts i with
    | none => rw [e] at q; exact q.elim
    | some t =>
      rw [e] at q
      obtain ⟨v, ev, rv⟩ := atI_rep r e
      exact .inl ⟨a, xs, i, v, e1, e2, sq, ev, k _ _ _ _ .refl sh rv q⟩
  cases tx with
  | ref a =>
    cases ty with
    | int i =>
      have h' : (match H3 a with
        | some (.lst ts) => oq (atI ts i) fun t => Q3 t H3
        | some (.rol ts) => oq (atI ts i) fun t => Q3 t H3
        | _ => False) := h
      split at h'
      · rename_i ts e
        obtain ⟨xs, sq, r⟩ := sh.sqL (.inl e)
        exact lst sq r rx.ref ry.int h'
      · rename_i ts e
        obtain ⟨xs, sq, r⟩ := sh.sqL (.inr e)
        exact lst sq r rx.ref ry.int h'
      · exact h'.elim
    | _ => exact h.elim
  | tup ts =>
    cases ty with
    | int i =>
      have h' : oq (atI ts i) fun t => Q3 t H3 := h
      cases e : atI ts i with
      | none => rw [e] at h'; exact h'.elim
      | some t =>
        rw [e] at h'
        obtain ⟨a, xs, e1, sq, r⟩ := rx.tup
        obtain ⟨v, ev, rv⟩ := atI_rep r e
        exact .inr (.inl ⟨a, xs, i, v, e1, ry.int, sq, ev, k _ _ _ _ .refl sh rv h'⟩)
    | _ => exact h.elim
  | str z =>
    cases ty with
    | int i =>
      have h' : z.length ≤ sizeLine ∧ oq (atI z.cps.toList i) fun c => Q3 (.str ⟨#[c]⟩) H3 := h
      cases e : atI z.cps.toList i with
      | none => rw [e] at h'; exact h'.2.elim
      | some c =>
        rw [e] at h'
        exact .inr (.inr ⟨z, i, c, rx.str, ry.int, h'.1, e, k _ _ _ _ .refl sh .ofStr h'.2⟩)
    | _ => exact h.elim
  | _ => exact h.elim
/-- xs[i] = v -/
def r3SetL : TSet3 := fun o i v H Q => match o, i with
  | .ref a, .int k => match H a with
    | some (.lst ts) => oq (ixN ts.length k) fun j => Q (up3 H a (.lst (ts.set j v)))
    | _ => False
  | _, _ => False
theorem SimH.wrL {K : PySem.W.Frag} {H : Hp} {H3 : Hp3} {a : Addr} {xs : List V} {ts : List T} {xs' : List V} (s : SimH K H3 H) (hH : H a = some (.lst xs)) (r : Reps K H ts xs') : SimH K (up3 H3 a (.lst ts)) (upd H a (.lst xs')) := fun b o e => by
  have le : TupLe K H (upd H a (.lst xs')) := wr_tupLe (by rw [hH]; exact trivial)
  by_cases hb : b = a
  · subst hb
    rw [up3_same] at e; cases e
    exact ⟨xs', upd_same, r.mono le⟩
  · rw [up3_ne hb] at e
    exact (s b o e).stay le fun u q => by rw [upd_ne hb]; exact q
theorem set3_list : PSet3 X r3SetL := by
  refine PSet.imp set_list ?_
  rintro o i v H Q ⟨to, ti, tv, H3, Q3, ro, ri, rv, sh, h, k⟩
  cases to with
  | ref a =>
    cases ti with
    | int n =>
      have h' : (match H3 a with
        | some (.lst ts) => oq (ixN ts.length n) fun j => Q3 (up3 H3 a (.lst (ts.set j tv)))
        | _ => False) := h
      split at h'
      · rename_i ts e
        obtain ⟨xs, hH, r⟩ := sh a _ e
        cases ej : ixN ts.length n with
        | none => rw [ej] at h'; exact h'.elim
        | some j =>
          rw [ej] at h'
          exact ⟨a, xs, n, j, ro.ref, ri.int, hH, by rw [← r.length]; exact ej, k _ _ (wr_tupLe (by rw [hH]; exact trivial)) (sh.wrL hH (r.set j rv)) h'⟩
      · exact h'.elim
    | _ => exact h.elim
  | _ => exact h.elim

/-! ### slices -/
abbrev TO3 := St3 → Hp3 → (Option Int → Hp3 → Prop) → Prop
def lftO (K : PySem.W.Frag) (t3 : TO3) : TO := fun σ H Q => ∃ σ3 H3 Q3, SimS K H σ3 σ ∧ SimH K H3 H ∧ t3 σ3 H3 Q3 ∧ ∀ o H' H3', TupLe K H H' → SimH K H3' H' → Q3 o H3' → Q o H'
def PO3 (X : Cx) (e : Option Expr) (t : TO3) : Prop := PO X e (lftO X.K t)
theorem PO.imp {e : Option Expr} {t t' : TO} (h : PO X e t) (w : ∀ σ H Q, t' σ H Q → t σ H Q) : PO X e t' := fun pins s σ H Q I q => h pins s σ H Q I (w σ H Q q)
def tNoPart3 : TO3 := fun _ H Q => Q none H
def tPart3 (t : TE3) : TO3 := fun σ H Q => t σ H fun x H1 => match x with
  | .int i => Q (some i) H1
  | _ => False
theorem po3_none : PO3 X none tNoPart3 := by
  refine PO.imp po_none ?_
  rintro σ H Q ⟨σ3, H3, Q3, ss, sh, h, k⟩
  exact k _ _ _ .refl sh h
theorem po3_some {e : Expr} {te : TE3} (h : PE3 X e te) : PO3 X (some e) (tPart3 te) := by
  refine PO.imp (po_some h) ?_
  rintro σ H Q ⟨σ3, H3, Q3, ss, sh, h, k⟩
  refine ⟨σ3, H3, _, ss, sh, h, fun v H' t H3' le sh' r q => ?_⟩
  cases t with
  | int i => exact ⟨i, r.int, k _ _ _ le sh' q⟩
  | _ => exact q.elim
theorem sl_str : SlR X (fun x lo hi H Q => ∃ z, x = .str z ∧ z.length ≤ sizeLine ∧ Q (.str (PySem.Txt.slice z lo hi)) H) := by
  intro pins s σ H x v vl vu lo hi sl Q I rx hs pl pu h
  obtain ⟨z, rfl, hz, q⟩ := h
  obtain ⟨t, rfl⟩ := rx
  refine ⟨"str", _, F.slot_str_getitem.lookup, typeIs_str _ _ _, ?_⟩
  obtain ⟨o, e, c, d⟩ := hs
  have fin : ∀ (t' : Tok) (k : Nat), EP X pins σ Q (.str (PySem.Txt.slice z lo hi) t') { s with toks := k } := fun t' k => ⟨.str _, H, I.tok k, ⟨t', rfl⟩, q⟩
  cases pl with
  | none =>
    cases pu with
    | none => exact wpAny_getItem_str_slice (l := none) (u := none) (st := none) ⟨o, e, c, d⟩ rfl (post_val_or_str ⟨Nat.le_trans (PySem.Txt.slice_le z _ _) hz, fin⟩)
    | int j uj => exact wpAny_getItem_str_slice (l := none) (u := some (j, uj)) (st := none) ⟨o, e, c, d⟩ rfl (post_val_or_str ⟨Nat.le_trans (PySem.Txt.slice_le z _ _) hz, fin⟩)
  | int i ui =>
    cases pu with
    | none => exact wpAny_getItem_str_slice (l := some (i, ui)) (u := none) (st := none) ⟨o, e, c, d⟩ rfl (post_val_or_str ⟨Nat.le_trans (PySem.Txt.slice_le z _ _) hz, fin⟩)
    | int j uj => exact wpAny_getItem_str_slice (l := some (i, ui)) (u := some (j, uj)) (st := none) ⟨o, e, c, d⟩ rfl (post_val_or_str ⟨Nat.le_trans (PySem.Txt.slice_le z _ _) hz, fin⟩)
def cut3 (ts : List T) (lo hi : Option Int) : List T := (ts.drop (HT.sIx ts.length 0 lo)).take (HT.sIx ts.length ts.length hi - HT.sIx ts.length 0 lo)
def r3Sl : T → Option Int → Option Int → Hp3 → VK3 → Prop := fun x lo hi H Q => match x with
  | .ref a => match H a with
    | some (.lst ts) => ∀ p, H p = none → Q (.ref p) (up3 H p (.lst (cut3 ts lo hi)))
    | some (.rol ts) => ∀ p, H p = none → Q (.ref p) (up3 H p (.lst (cut3 ts lo hi)))
    | _ => False
  | .tup ts => ¬ (HT.sIx ts.length 0 lo = 0 ∧ HT.sIx ts.length ts.length hi = ts.length) ∧ Q (.tup (cut3 ts lo hi)) H
  | .str z => z.length ≤ sizeLine ∧ Q (.str (PySem.Txt.slice z lo hi)) H
  | _ => False
def tSl3 (te : TE3) (tl th : TO3) : TE3 := fun σ H Q => te σ H fun x H1 => tl σ H1 fun l H2 => th σ H2 fun u H3 => r3Sl x l u H3 Q
theorem cut_rep {K : PySem.W.Frag} {H : Hp} {ts : List T} {xs : List V} (r : Reps K H ts xs) (lo hi : Option Int) : Reps K H (cut3 ts lo hi) (cutV xs lo hi) := by
  unfold cut3 cutV
  rw [← r.length]
  exact (r.drop _).take _
theorem e3_slice {e : Expr} {lo hi : Option Expr} {te : TE3} {tl th : TO3} {p2 pos : Pos} (he : PE3 X e te) (hl : PO3 X lo tl) (hu : PO3 X hi th) : PE3 X (.Subscript e (.Slice lo hi none p2) pos) (tSl3 te tl th) := by
  refine PE.imp (pe_slice (sl_list.or (sl_tup.or sl_str)) he hl hu) ?_
  rintro σ H Q ⟨σ3, H3, Q3, ss, sh, h, k⟩
  refine ⟨σ3, H3, _, ss, sh, h, fun x H1 tx H31 le1 sh1 rx q1 => ⟨σ3, H31, _, ss.mono le1, sh1, q1, fun l H2 H32 le2 sh2 q2 => ⟨σ3, H32, _, ss.mono (le1.trans le2), sh2, q2, fun u H4 H34 le4 sh4 q4 => ?_⟩⟩⟩
  have k' := k.at (le1.trans (le2.trans le4))
  have rx' := rx.mono (le2.trans le4)
  cases tx with
  | ref a =>
    have h' : (match H34 a with
      | some (.lst ts) => ∀ p, H34 p = none → Q3 (.ref p) (up3 H34 p (.lst (cut3 ts l u)))
      | some (.rol ts) => ∀ p, H34 p = none → Q3 (.ref p) (up3 H34 p (.lst (cut3 ts l u)))
      | _ => False) := q4
    split at h'
    · rename_i ts e
      obtain ⟨xs, sq, r⟩ := sh4.sqL (.inl e)
      exact .inl ⟨a, xs, rx'.ref, sq, fun p hp => k' _ _ _ _ (upd_tupLe hp) (sh4.newLst hp (cut_rep r l u)) .ofRef (h' p (sh4.fresh hp))⟩
    · rename_i ts e
      obtain ⟨xs, sq, r⟩ := sh4.sqL (.inr e)
      exact .inl ⟨a, xs, rx'.ref, sq, fun p hp => k' _ _ _ _ (upd_tupLe hp) (sh4.newLst hp (cut_rep r l u)) .ofRef (h' p (sh4.fresh hp))⟩
    · exact h'.elim
  | tup ts =>
    obtain ⟨a, xs, rfl, sq, r⟩ := rx'.tup
    refine .inr (.inl ⟨a, xs, rfl, sq, by rw [← r.length]; exact q4.1, fun p hp => k' _ _ _ _ (upd_tupLe hp) (sh4.new hp) (SimH.newTup (H3 := H34) hp (cut_rep r l u)) q4.2⟩)
  | str z => exact .inr (.inr ⟨z, rx'.str, q4.1, k' _ _ _ _ .refl sh4 .ofStr q4.2⟩)
  | _ => exact q4.elim

/-! ### dicts with texts as keys -/
def look3 (k : Str) : List (Str × T) → Option T
  | [] => none
  | (k', v) :: r => if k' = k then some v else look3 k r
def put3 (k : Str) (v : T) (kvs : List (Str × T)) : List (Str × T) :=
  if (kvs.any fun kv => decide (kv.1 = k)) = true then kvs.map (fun kv => if kv.1 = k then (kv.1, v) else kv) else kvs ++ [(k, v)]
def r3D : R3 := fun x y H Q => match x, y with
  | .ref a, .str k => match H a with
    | some (.dct kvs) => oq (look3 k kvs) fun t => Q t H
    | _ => False
  | _, _ => False
theorem look_rep {K : PySem.W.Frag} {H : Hp} {k : Str} : ∀ {kvs : List (Str × T)} {vs : List (Key × V)} {t : T}, RepD K H kvs vs → look3 k kvs = some t → ∃ v, valV vs (Sum.inr k : Key) = some v ∧ Rep K H t v
  | [], _, _, _, e => by cases e
  | (k', t') :: r, _, t, .cons (b := (kk, v')) ⟨e1, rv⟩ rr, e => by
    simp only at e1 rv
    subst e1
    unfold look3 at e
    by_cases hk : k' = k
    · rw [if_pos hk] at e
      cases e
      exact ⟨v', by rw [valV_pos (by rw [hk])], rv⟩
    · rw [if_neg hk] at e
      obtain ⟨v, ev, q⟩ := look_rep rr e
      exact ⟨v, by rw [valV_neg (by intro z; exact hk (Sum.inr.inj z))]; exact ev, q⟩
theorem e3_dget {o i : Expr} {to ti : TE3} {pos : Pos} (hu : X.A.units + 1 < cLine) (ho : PE3 X o to) (hi : PE3 X i ti) (hs : NoSl i := by exact fun _ _ => rfl) : PE3 X (.Subscript o i pos) (tOp3 r3D to ti) := by
  refine PE.imp (pe_dget hu ho hi hs) ?_
  rintro σ H Q ⟨σ3, H3, Q3, ss, sh, h, k⟩
  refine ⟨σ3, H3, _, ss, sh, h, fun x H1 tx H31 le1 sh1 rx q1 => ⟨σ3, H31, _, ss.mono le1, sh1, q1, fun y H2 ty H32 le2 sh2 ry q2 => ?_⟩⟩
  cases tx with
  | ref a =>
    cases ty with
    | str key =>
      have h' : (match H32 a with
        | some (.dct kvs) => oq (look3 key kvs) fun t => Q3 t H32
        | _ => False) := q2
      split at h'
      · rename_i kvs e
        obtain ⟨vs, hH, r⟩ := sh2 a _ e
        cases el : look3 key kvs with
        | none => rw [el] at h'; exact h'.elim
        | some t =>
          rw [el] at h'
          obtain ⟨v, ev, rv⟩ := look_rep r el
          refine ⟨a, v, rx.ref, ?_, k.at (le1.trans le2) _ _ _ _ .refl sh2 rv h'⟩
          rw [ry.str, ← ev]
          exact DGet.k (k := Sum.inr key) hH
      · exact h'.elim
    | _ => exact q2.elim
  | _ => exact q2.elim
def sDPut3 (td ty tv : TE3) : TS3 := fun D σ H => tv σ H fun v H1 => td σ H1 fun x H2 => ty σ H2 fun y H3 => match x, y with
  | .ref a, .str k => match H3 a with
    | some (.dct kvs) => kvs.length < sizeLine ∧ D.nx σ (up3 H3 a (.dct (put3 k v kvs)))
    | _ => False
  | _, _ => False
theorem put_rep {K : PySem.W.Frag} {H : Hp} {k : Str} {t : T} {v : V} (rv : Rep K H t v) {kvs : List (Str × T)} {vs : List (Key × V)} (r : RepD K H kvs vs) : RepD K H (put3 k t kvs) (putK vs (Sum.inr k : Key) v) := by
  have e : ∀ {kvs : List (Str × T)} {vs : List (Key × V)}, RepD K H kvs vs → (kvs.any fun kv => decide (kv.1 = k)) = (vs.any fun kv => decide (kv.1 = (Sum.inr k : Key))) ∧ RepD K H (kvs.map (fun kv => if kv.1 = k then (kv.1, t) else kv)) (vs.map (fun kv => if kv.1 = (Sum.inr k : Key) then (kv.1, v) else kv)) := by
    intro kvs
    induction kvs with
    | nil => intro vs r; cases r; exact ⟨rfl, .nil⟩
    | cons p l ih =>
      intro vs r
      cases r with
      | cons q rr =>
        rename_i b l2
        obtain ⟨e1, e2⟩ := ih rr
        obtain ⟨q1, q2⟩ := q
        obtain ⟨bk, bv⟩ := b
        simp only at q1 q2
        subst q1
        by_cases hk : p.1 = k
        · refine ⟨by simp [hk], ?_⟩
          simp only [List.map_cons, hk, if_true]
          exact .cons ⟨rfl, rv⟩ e2
        · have hk' : ¬ (Sum.inr p.1 : Key) = Sum.inr k := fun z => hk (Sum.inr.inj z)
          refine ⟨by simp only [List.any_cons, hk, hk', decide_false, Bool.false_or]; exact e1, ?_⟩
          simp only [List.map_cons, hk, hk', if_false]
          exact .cons ⟨rfl, q2⟩ e2
  obtain ⟨e1, e2⟩ := e r
  unfold put3 putK
  rw [e1]
  split
  · exact e2
  · have app : ∀ {a : List (Str × T)} {b : List (Key × V)}, RepD K H a b → RepD K H (a ++ [(k, t)]) (b ++ [((Sum.inr k : Key), v)]) := fun h => Paired.snoc h ⟨rfl, rv⟩
    exact app r
theorem SimH.wrD {K : PySem.W.Frag} {H : Hp} {H3 : Hp3} {a : Addr} {kv : List (Key × V)} {kvs : List (Str × T)} {kv' : List (Key × V)} (s : SimH K H3 H) (hH : H a = some (.dK kv)) (r : RepD K H kvs kv') : SimH K (up3 H3 a (.dct kvs)) (upd H a (.dK kv')) := fun b o e => by
  have le : TupLe K H (upd H a (.dK kv')) := wr_tupLe (by rw [hH]; exact trivial)
  by_cases hb : b = a
  · subst hb
    rw [up3_same] at e; cases e
    exact ⟨kv', upd_same, r.mono le⟩
  · rw [up3_ne hb] at e
    exact (s b o e).stay le fun u q => by rw [upd_ne hb]; exact q
theorem s3_dput {o i value : Expr} {td ty tv : TE3} {pos pos' : Pos} (hu : X.A.units + 1 < cLine) (ho : PE3 X o td) (hi : PE3 X i ty) (hv : PE3 X value tv) (hs : swapsWith value (some (.Subscript o i pos')) pos.line X.env = pure false := by rfl) :
    PS3 X (.Assign [.Subscript o i pos'] value pos) (sDPut3 td ty tv) := by
  refine PS.imp (ps_dput hu ho hi hv hs) ?_
  rintro D σ H ⟨σ3, H3, D3, ss, sh, h, k1, _⟩
  refine ⟨σ3, H3, _, ss, sh, h, fun v H1 tv H31 le1 sh1 rv q1 => ⟨σ3, H31, _, ss.mono le1, sh1, q1, fun x H2 tx H32 le2 sh2 rx q2 => ⟨σ3, H32, _, ss.mono (le1.trans le2), sh2, q2, fun y H4 ty H34 le4 sh4 ry q4 => ?_⟩⟩⟩
  cases tx with
  | ref a =>
    cases ty with
    | str key =>
      have h' : (match H34 a with
        | some (.dct kvs) => kvs.length < sizeLine ∧ D3.nx σ3 (up3 H34 a (.dct (put3 key tv kvs)))
        | _ => False) := q4
      split at h'
      · rename_i kvs e
        obtain ⟨vs, hH, r⟩ := sh4 a _ e
        have rvv := rv.mono (le2.trans le4)
        have le5 : TupLe X.K H4 (upd H4 a (.dK (putK vs (Sum.inr key : Key) v))) := wr_tupLe (by rw [hH]; exact trivial)
        refine ⟨a, _, (rx.mono le4).ref, ?_, k1 _ _ _ _ (le1.trans (le2.trans (le4.trans le5))) (ss.mono (le1.trans (le2.trans (le4.trans le5)))) (sh4.wrD hH (put_rep rvv r)) h'.2⟩
        rw [ry.str]
        exact DPut.k (k := Sum.inr key) hH (by rw [← Paired.length r]; exact h'.1)
      · exact h'.elim
    | _ => exact q4.elim
  | _ => exact q4.elim

/-- {'a': x, ..} -/
def prs3 : List (Str × TE3) → St3 → Hp3 → (List (Str × T) → Hp3 → Prop) → Prop
  | [], _, H, Q => Q [] H
  | (k, tv) :: r, σ, H, Q => tv σ H fun y H2 => prs3 r σ H2 fun ps H3 => Q ((k, y) :: ps) H3
def mrg3 (kvs more : List (Str × T)) : List (Str × T) := more.foldl (fun acc kv => put3 kv.1 kv.2 acc) kvs
def tDisp3 (trs : List (Str × TE3)) : TE3 := fun σ H Q => ∀ p, H p = none → prs3 trs σ (up3 H p (.dct [])) fun ps H2 => H2 p = some (.dct []) ∧ ps.length ≤ 15 ∧ Q (.ref p) (up3 H2 p (.dct (mrg3 [] ps)))
def PPs3 (X : Cx) (pos : Pos) (keys : List (Option Expr)) (values : List Expr) (trs : List (Str × TE3)) : Prop := PPs X pos keys values (trs.map fun p => (lft X.K (tC3 (.str p.1)), lft X.K p.2))
theorem ps3_nil {pos : Pos} : PPs3 X pos [] [] [] := pps_nil
theorem ps3_cons {pos kpos : Pos} {x : Str} {j : Nat} {v : Expr} {ks : List (Option Expr)} {vs : List Expr} {tv : TE3} {trs : List (Str × TE3)} (hv : PE3 X v tv) (hr : PPs3 X pos ks vs trs) :
    PPs3 X pos (some (.Constant (.str x) j kpos) :: ks) (v :: vs) ((x, tv) :: trs) := pps_cons c3_str hv hr
theorem prs_refine {K : PySem.W.Frag} {σ3 : St3} {σ : L2.St} : ∀ {trs : List (Str × TE3)} {H : Hp} {H3 : Hp3} {Q3 : List (Str × T) → Hp3 → Prop} {Q : List (V × V) → Hp → Prop}, SimS K H σ3 σ → SimH K H3 H → prs3 trs σ3 H3 Q3 →
    (∀ ps qs H' H3', TupLe K H H' → SimH K H3' H' → Paired (fun (p : Str × T) (q : V × V) => q.1 = .str p.1 ∧ Rep K H' p.2 q.2) ps qs → Q3 ps H3' → Q qs H') → tPairs (trs.map fun p => (lft K (tC3 (.str p.1)), lft K p.2)) σ H Q
  | [], H, H3, Q3, Q, ss, sh, h, k => k [] [] H H3 .refl sh .nil h
  | (key, tv) :: r, H, H3, Q3, Q, ss, sh, h, k => by
    refine ⟨σ3, H3, fun t H => t = .str key ∧ H = H3, ss, sh, ⟨rfl, rfl⟩, fun x H1 tx H31 le1 sh1 rx ⟨e1, e2⟩ => ?_⟩
    subst e1 e2
    refine ⟨σ3, H31, _, ss.mono le1, sh1, h, fun y H2 ty H32 le2 sh2 ry q2 => ?_⟩
    exact prs_refine (ss.mono (le1.trans le2)) sh2 q2 fun ps qs H' H3' le sh' pr q => k _ _ H' H3' (le1.trans (le2.trans le)) sh' (.cons ⟨rx.str, ry.mono le⟩ pr) q
theorem mrg_rep {K : PySem.W.Frag} {H : Hp} : ∀ {ps : List (Str × T)} {qs : List (Key × V)} {kvs : List (Str × T)} {vs : List (Key × V)}, RepD K H ps qs → RepD K H kvs vs → RepD K H (mrg3 kvs ps) (mergeK vs qs) := by
  intro ps
  induction ps with
  | nil => intro qs kvs vs r r'; cases r; exact r'
  | cons p l ih =>
    intro qs kvs vs r r'
    cases r with
    | cons q rr =>
      rename_i b l2
      obtain ⟨bk, bv⟩ := b
      obtain ⟨q1, q2⟩ := q
      simp only at q1 q2
      subst q1
      show RepD K H (mrg3 (put3 p.1 p.2 kvs) l) (mergeK (putK vs (Sum.inr p.1) bv) l2)
      exact ih rr (put_rep q2 r')
theorem e3_disp {pos : Pos} {keys : List (Option Expr)} {values : List Expr} {trs : List (Str × TE3)} (h : PPs3 X pos keys values trs) (hall : keys.all (·.isSome) = true := by rfl) (hl : keys.length = values.length := by rfl) (h0 : keys ≠ [] := by simp)
    (h15 : keys.length ≤ 15 := by decide) : PE3 X (.Dict keys values pos) (tDisp3 trs) := by
  refine PE.imp (pe_disp h hall hl h0 h15) ?_
  rintro σ H Q ⟨σ3, H3, Q3, ss, sh, h, k⟩ p hp
  have le0 : TupLe X.K H (upd H p (.dK [])) := upd_tupLe hp
  have sh0 : SimH X.K (up3 H3 p (.dct [])) (upd H p (.dK [])) := fun a o e => by
    by_cases ha : a = p
    · subst ha
      rw [up3_same] at e; cases e
      exact ⟨[], upd_same, .nil⟩
    · rw [up3_ne ha] at e
      exact sh.new hp a o e
  refine prs_refine (ss.mono le0) sh0 (h p (sh.fresh hp)) fun ps qs H' H3' le sh' pr q => ?_
  obtain ⟨vs, hH, r0⟩ := sh' p _ q.1
  cases r0
  have hk : ∀ {ps : List (Str × T)} {qs : List (V × V)}, Paired (fun (p : Str × T) (q : V × V) => q.1 = .str p.1 ∧ Rep X.K H' p.2 q.2) ps qs → ∃ kvs : List (Key × V), qs = kvs.map (fun kv => (kV kv.1, kv.2)) ∧ RepD X.K H' ps kvs := by
    intro ps
    induction ps with
    | nil => intro qs r; cases r; exact ⟨[], rfl, .nil⟩
    | cons p l ih =>
      intro qs r
      cases r with
      | cons q rr =>
        rename_i b l2
        obtain ⟨b1, b2⟩ := b
        obtain ⟨kvs, e, rd⟩ := ih rr
        obtain ⟨q1, q2⟩ := q
        simp only at q1 q2
        subst q1
        exact ⟨(Sum.inr p.1, b2) :: kvs, by rw [e]; rfl, .cons ⟨rfl, q2⟩ rd⟩
  obtain ⟨kvs, e, rd⟩ := hk pr
  refine ⟨hH, kvs, e, by rw [← Paired.length rd]; exact q.2.1, ?_⟩
  exact k _ _ _ _ (le0.trans (le.trans (wr_tupLe (by rw [hH]; exact trivial)))) (sh'.wrD hH (mrg_rep rd .nil)) .ofRef q.2.2
end
end L3

set_option Elab.async false
set_option linter.all false
set_option maxRecDepth 100000
set_option maxHeartbeats 1000000
namespace L3
open PySem PySem.Spec PyProof.Rows L2

section
variable {X : Cx} {x : Str} {p pos : Pos} {e : Expr} {es : List Expr} {t : TA3} {id Ty : String} {r : List T → Hp3 → VK3 → Prop}
/-! ### calls of builtins and types -/
def tCB3 (r : List T → Hp3 → VK3 → Prop) (t : TA3) : TE3 := fun σ H Q => t σ H fun vs H1 => r vs H1 Q
theorem e3_callB (hc : CallR3 X (.builtin id) r) (hg : Gl X x) (hm : X.mg x = none) (hv : bootBuiltins x = some (.builtin id)) (ha : PA3 X (e :: es) t) (hn : x ≠ "__name__" := by decide) (hdb : (x == ("__debug__" : Str)) = false := by decide)
    (he : starEach (e :: es) X.env = (false, eval e X.env) :: starEach es X.env := by rfl) (hpl : (backTo pos (starEach es X.env)).any (·.1) = false := by rfl) : PE3 X (.Call (.Name x p) (e :: es) [] pos) (tCB3 r t) := by
  refine PE.imp (pe_callB hc hg hm hv ha hn hdb he hpl) ?_
  rintro σ H Q ⟨σ3, H3, Q3, ss, sh, h, k⟩
  exact ⟨σ3, H3, _, ss, sh, h, fun vs H' ts H3' le sh' r q => ⟨ts, H3', Q3, r, sh', q, k.at le⟩⟩
theorem e3_callTy (hc : CallR3 X (.type Ty) r) (hg : Gl X x) (hm : X.mg x = none) (hv : bootBuiltins x = some (.type Ty)) (ha : PA3 X (e :: es) t) (hn : x ≠ "__name__" := by decide) (hdb : (x == ("__debug__" : Str)) = false := by decide)
    (he : starEach (e :: es) X.env = (false, eval e X.env) :: starEach es X.env := by rfl) (hpl : (backTo pos (starEach es X.env)).any (·.1) = false := by rfl) : PE3 X (.Call (.Name x p) (e :: es) [] pos) (tCB3 r t) := by
  refine PE.imp (pe_callTy hc hg hm hv ha hn hdb he hpl) ?_
  rintro σ H Q ⟨σ3, H3, Q3, ss, sh, h, k⟩
  exact ⟨σ3, H3, _, ss, sh, h, fun vs H' ts H3' le sh' r q => ⟨ts, H3', Q3, r, sh', q, k.at le⟩⟩
/-- a builtin type's name as a value -/
theorem b3_ty {n : String} (hg : Gl X x) (hm : X.mg x = none) (hv : bootBuiltins x = some (.type n)) (hn : x ≠ "__name__" := by decide) (hdb : (x == ("__debug__" : Str)) = false := by decide) : PE3 X (.Name x pos) (tC3 (.ty n)) := by
  refine PE.imp (pe_bltn (v := .ty n) hg hm hv rfl hn hdb) ?_
  rintro σ H Q ⟨σ3, H3, Q3, ss, sh, h, k⟩
  exact k _ _ _ H3 .refl sh .ofTy h
theorem Reps.one' {K : PySem.W.Frag} {H : Hp} {t : T} {vs : List V} (r : Reps K H [t] vs) : ∃ v, vs = [v] ∧ Rep K H t v := by
  obtain ⟨v, _, rfl, a, b⟩ := r.inv
  rw [b.inv0]
  exact ⟨v, rfl, a⟩
theorem Reps.two' {K : PySem.W.Frag} {H : Hp} {t u : T} {vs : List V} (r : Reps K H [t, u] vs) : ∃ v w, vs = [v, w] ∧ Rep K H t v ∧ Rep K H u w := by
  obtain ⟨v, _, rfl, a, b⟩ := r.inv
  obtain ⟨w, rfl, c⟩ := b.one'
  exact ⟨v, w, rfl, a, c⟩
/-- len -/
def r3Len : List T → Hp3 → VK3 → Prop := fun ts H Q => match ts with
  | [.ref a] => match H a with
    | some (.lst xs) => Q (.int xs.length) H
    | some (.rol xs) => Q (.int xs.length) H
    | _ => False
  | [.tup xs] => Q (.int xs.length) H
  | [.str z] => z.length ≤ sizeLine ∧ Q (.int z.length) H
  | _ => False
theorem c3_len : CallR3 X (.builtin "len") r3Len := by
  refine CallR.imp (call_len_seq.or call_len_str) ?_
  rintro xs H Q ⟨ts, H3, Q3, r, sh, h, k⟩
  match ts, h, r with
  | [.ref a], h, r =>
    obtain ⟨v, rfl, rv⟩ := r.one'
    have h' : (match H3 a with
      | some (.lst xs) => Q3 (.int xs.length) H3
      | some (.rol xs) => Q3 (.int xs.length) H3
      | _ => False) := h
    split at h'
    · rename_i us e
      obtain ⟨ys, sq, rs⟩ := sh.sqL (.inl e)
      exact .inl ⟨a, ys, by rw [rv.ref], .inl sq, by rw [← rs.length]; exact k _ _ _ _ .refl sh .ofInt h'⟩
    · rename_i us e
      obtain ⟨ys, sq, rs⟩ := sh.sqL (.inr e)
      exact .inl ⟨a, ys, by rw [rv.ref], .inl sq, by rw [← rs.length]; exact k _ _ _ _ .refl sh .ofInt h'⟩
    · exact h'.elim
  | [.tup us], h, r =>
    obtain ⟨v, rfl, rv⟩ := r.one'
    obtain ⟨a, ys, rfl, sq, rs⟩ := rv.tup
    exact .inl ⟨a, ys, rfl, .inr sq, by rw [← rs.length]; exact k _ _ _ _ .refl sh .ofInt h⟩
  | [.str z], h, r =>
    obtain ⟨v, rfl, rv⟩ := r.one'
    exact .inr ⟨z, by rw [rv.str], h.1, k _ _ _ _ .refl sh .ofInt h.2⟩
/-- list(..), tuple(..) of a list or a tuple -/
def r3List : List T → Hp3 → VK3 → Prop := fun ts H Q => match ts with
  | [.ref a] => match H a with
    | some (.lst xs) => ∀ p, H p = none → Q (.ref p) (up3 H p (.lst xs))
    | some (.rol xs) => ∀ p, H p = none → Q (.ref p) (up3 H p (.lst xs))
    | _ => False
  | [.tup xs] => ∀ p, H p = none → Q (.ref p) (up3 H p (.lst xs))
  | _ => False
theorem c3_list : CallR3 X (.type "list") r3List := by
  refine CallR.imp call_list_of ?_
  rintro xs H Q ⟨ts, H3, Q3, r, sh, h, k⟩
  match ts, h, r with
  | [.ref a], h, r =>
    obtain ⟨v, rfl, rv⟩ := r.one'
    have h' : (match H3 a with
      | some (.lst xs) => ∀ p, H3 p = none → Q3 (.ref p) (up3 H3 p (.lst xs))
      | some (.rol xs) => ∀ p, H3 p = none → Q3 (.ref p) (up3 H3 p (.lst xs))
      | _ => False) := h
    split at h'
    · rename_i us e
      obtain ⟨ys, sq, rs⟩ := sh.sqL (.inl e)
      exact ⟨a, ys, by rw [rv.ref], .inl sq, fun l hl => k _ _ _ _ (upd_tupLe hl) (sh.newLst hl rs) .ofRef (h' l (sh.fresh hl))⟩
    · rename_i us e
      obtain ⟨ys, sq, rs⟩ := sh.sqL (.inr e)
      exact ⟨a, ys, by rw [rv.ref], .inl sq, fun l hl => k _ _ _ _ (upd_tupLe hl) (sh.newLst hl rs) .ofRef (h' l (sh.fresh hl))⟩
    · exact h'.elim
  | [.tup us], h, r =>
    obtain ⟨v, rfl, rv⟩ := r.one'
    obtain ⟨a, ys, rfl, sq, rs⟩ := rv.tup
    exact ⟨a, ys, rfl, .inr sq, fun l hl => k _ _ _ _ (upd_tupLe hl) (sh.newLst hl rs) .ofRef (h l (sh.fresh hl))⟩
def r3Tuple : List T → Hp3 → VK3 → Prop := fun ts H Q => match ts with
  | [.ref a] => match H a with
    | some (.lst xs) => Q (.tup xs) H
    | some (.rol xs) => Q (.tup xs) H
    | _ => False
  | [.tup xs] => Q (.tup xs) H
  | _ => False
theorem c3_tuple : CallR3 X (.type "tuple") r3Tuple := by
  refine CallR.imp call_tuple_of ?_
  rintro xs H Q ⟨ts, H3, Q3, r, sh, h, k⟩
  match ts, h, r with
  | [.ref a], h, r =>
    obtain ⟨v, rfl, rv⟩ := r.one'
    have h' : (match H3 a with
      | some (.lst xs) => Q3 (.tup xs) H3
      | some (.rol xs) => Q3 (.tup xs) H3
      | _ => False) := h
    split at h'
    · rename_i us e
      obtain ⟨ys, sq, rs⟩ := sh.sqL (.inl e)
      exact ⟨a, ys, by rw [rv.ref], .inl ⟨sq, fun l hl => k _ _ _ _ (upd_tupLe hl) (sh.new hl) (SimH.newTup (H3 := H3) hl rs) h'⟩⟩
    · rename_i us e
      obtain ⟨ys, sq, rs⟩ := sh.sqL (.inr e)
      exact ⟨a, ys, by rw [rv.ref], .inl ⟨sq, fun l hl => k _ _ _ _ (upd_tupLe hl) (sh.new hl) (SimH.newTup (H3 := H3) hl rs) h'⟩⟩
    · exact h'.elim
  | [.tup us], h, r =>
    obtain ⟨v, rfl, rv⟩ := r.one'
    obtain ⟨a, ys, rfl, sq, rs⟩ := rv.tup
    exact ⟨a, ys, rfl, .inr ⟨sq, k _ _ _ _ .refl sh (.ofTup sq rs) h⟩⟩
/-- int(i), int(bool); str(i) -/
def r3Int : List T → Hp3 → VK3 → Prop := fun ts H Q => match ts with
  | [.int i] => Q (.int i) H
  | [.bl b] => Q (.int (if b then 1 else 0)) H
  | _ => False
theorem c3_int' : CallR3 X (.type "int") r3Int := by
  refine CallR.imp call_int1 ?_
  rintro xs H Q ⟨ts, H3, Q3, r, sh, h, k⟩
  match ts, h, r with
  | [.int i], h, r =>
    obtain ⟨v, rfl, rv⟩ := r.one'
    exact .inl ⟨i, by rw [rv.int], k _ _ _ _ .refl sh .ofInt h⟩
  | [.bl b], h, r =>
    obtain ⟨v, rfl, rv⟩ := r.one'
    exact .inr ⟨b, by rw [rv.bl], k _ _ _ _ .refl sh .ofInt h⟩
def r3Str : List T → Hp3 → VK3 → Prop := fun ts H Q => match ts with
  | [.int i] => i.natAbs.log2 < 1920 ∧ Q (.str (toString i)) H
  | _ => False
theorem c3_str' : CallR3 X (.type "str") r3Str := by
  refine CallR.imp call_str_int ?_
  rintro xs H Q ⟨ts, H3, Q3, r, sh, h, k⟩
  match ts, h, r with
  | [.int i], h, r =>
    obtain ⟨v, rfl, rv⟩ := r.one'
    exact ⟨i, by rw [rv.int], h.1, k _ _ _ _ .refl sh .ofStr h.2⟩
/-- sum of a list of ints -/
def ints3 : List T → Option (List Int)
  | [] => some []
  | .int i :: r => (ints3 r).map (i :: ·)
  | _ => none
theorem ints3_map : ∀ (ns : List Int), ints3 (ns.map T.int) = some ns
  | [] => rfl
  | n :: r => by simp [ints3, ints3_map r]
theorem ints3_vals {K : PySem.W.Frag} {H : Hp} : ∀ {ts : List T} {xs : List V} {us : List Value} {ns : List Int}, ints3 ts = some ns → Reps K H ts xs → Vals xs us → IntsAre us ns
  | [], xs, us, ns, e, r, v => by
    cases e
    rw [r.inv0] at v
    cases v
    exact .nil
  | .int i :: l, xs, us, ns, e, r, v => by
    obtain ⟨x, xr, rfl, rx, rr⟩ := r.inv
    cases v with
    | cons a b =>
      rw [rx.int] at a
      obtain ⟨t, rfl⟩ := a
      cases hl : ints3 l with
      | none => simp [ints3, hl] at e
      | some ms =>
        simp [ints3, hl] at e
        subst e
        exact .cons _ _ (ints3_vals hl rr b)
  | .non :: _, _, _, _, e, _, _ => by simp [ints3] at e
  | .bl _ :: _, _, _, _, e, _, _ => by simp [ints3] at e
  | .str _ :: _, _, _, _, e, _, _ => by simp [ints3] at e
  | .tup _ :: _, _, _, _, e, _, _ => by simp [ints3] at e
  | .ref _ :: _, _, _, _, e, _, _ => by simp [ints3] at e
  | .ty _ :: _, _, _, _, e, _, _ => by simp [ints3] at e
def r3Sum : List T → Hp3 → VK3 → Prop := fun ts H Q => match ts with
  | [.ref a] => match H a with
    | some (.lst xs) => oq (ints3 xs) fun ns => Q (.int ns.sum) H
    | some (.rol xs) => oq (ints3 xs) fun ns => Q (.int ns.sum) H
    | _ => False
  | _ => False
theorem c3_sum (hc : X.calm = true) : CallR3 X (.builtin "sum") r3Sum := by
  intro pins s σ H xs us Q I rv h
  obtain ⟨ts, H3, Q3, r, sh, h, k⟩ := h
  match ts, h, r with
  | [.ref a], h, r =>
    obtain ⟨v, rfl, rv'⟩ := r.one'
    obtain ⟨u, rfl, ru⟩ := vals1 rv
    rw [rv'.ref] at ru
    cases ru
    have main : ∀ {ls : List T} {ys : List V}, SqL X.K H a ys → Reps X.K H ls ys → oq (ints3 ls) (fun ns => Q3 (.int ns.sum) H3) → wpAny (model X.prog X.w) X.A (call (.builtin "sum") [.ref a]) (EP X pins σ Q) X.xe s := by
      intro ls ys sq rs q
      cases e : ints3 ls with
      | none => rw [e] at q; exact q.elim
      | some ns =>
        rw [e] at q
        obtain ⟨its, rvs, hl, _⟩ := I.list sq
        have hi := ints3_vals e rs rvs
        have hall : AllInts its.toArray := hi.allInts
        obtain ⟨zs, ez⟩ := hall.items
        have hls : s.heap.IsList a (intItems zs) := by rw [← ez]; exact hl.isList
        refine sum_intListG (I.ok.hd hc) hls fun h' tk t' hk => ?_
        have es : preSum (numAt zs) zs.size = ns.sum := by
          have e1 := nums_intItems zs
          rw [← ez, show its.toArray.toList = its from rfl, hi.numsOf] at e1
          rw [preSum_eq, List.take_of_length_le (by simp), ← e1]
        rw [es]
        exact ⟨.int ns.sum, H, I.kept hk, ⟨t', rfl⟩, k _ _ _ _ .refl sh .ofInt q⟩
    have h' : (match H3 a with
      | some (.lst xs) => oq (ints3 xs) fun ns => Q3 (.int ns.sum) H3
      | some (.rol xs) => oq (ints3 xs) fun ns => Q3 (.int ns.sum) H3
      | _ => False) := h
    split at h'
    · rename_i ls e
      obtain ⟨ys, sq, rs⟩ := sh.sqL (.inl e)
      exact main sq rs h'
    · rename_i ls e
      obtain ⟨ys, sq, rs⟩ := sh.sqL (.inr e)
      exact main sq rs h'
    · exact h'.elim
/-- isinstance(x, a builtin type) -/
def isT (n : String) : T → Hp3 → Option Bool := fun x H => match x with
  | .non => some (n == "NoneType")
  | .bl _ => some (n == "bool" || n == "int")
  | .int _ => some (n == "int")
  | .str _ => some (n == "str")
  | .tup _ => some (n == "tuple")
  | .ref a => match H a with
    | some (.lst _) => some (n == "list")
    | some (.dct _) => some (n == "dict")
    | _ => none
  | .ty _ => none
def r3Isi : List T → Hp3 → VK3 → Prop := fun ts H Q => match ts with
  | [x, .ty n] => (n = "str" ∨ n = "int" ∨ n = "bool" ∨ n = "tuple" ∨ n = "list") ∧ oq (isT n x H) fun b => Q (.bl b) H
  | _ => False
theorem kit_ty (K : PySem.W.Frag) (a b : String) (ha : a = "NoneType" ∨ a = "bool" ∨ a = "int" ∨ a = "str" ∨ a = "tuple" ∨ a = "list" ∨ a = "dict") (hb : b = "str" ∨ b = "int" ∨ b = "bool" ∨ b = "tuple" ∨ b = "list") :
    PySem.W.kitOne K (.type a) (.type b) = some (a == b || (a == "bool" && b == "int")) := by
  rcases ha with rfl | rfl | rfl | rfl | rfl | rfl | rfl <;> rcases hb with rfl | rfl | rfl | rfl | rfl <;> rfl

theorem c3_isi : CallR3 X (.builtin "isinstance") r3Isi := by
  intro pins s σ H xs us Q I rv h
  obtain ⟨ts, H3, Q3, r, sh, h, k⟩ := h
  match ts, h, r with
  | [x, .ty n], h, r =>
    obtain ⟨v, w, rfl, r1, r2⟩ := r.two'
    obtain ⟨u1, u2, rfl, q1, q2⟩ := vals2 rv
    rw [r2.ty] at q2
    cases q2
    obtain ⟨hn, h⟩ := h
    have fin : ∀ {b : Bool}, Q3 (.bl b) H3 → ∀ tk, EP X pins σ Q (.bool b) { s with toks := tk } := fun q tk => ⟨.bl _, H, I.tok tk, rfl, k _ _ _ _ .refl sh .ofBl q⟩
    cases x with
    | non => exact isinst_ok I q1 (by rw [r1.non]; exact .non) (kit_ty X.K "NoneType" n (by simp) hn) (fin (by rcases hn with rfl | rfl | rfl | rfl | rfl <;> exact h))
    | bl b => exact isinst_ok I q1 (by rw [r1.bl]; exact .bl b) (kit_ty X.K "bool" n (by simp) hn) (fin (by rcases hn with rfl | rfl | rfl | rfl | rfl <;> exact h))
    | int i => exact isinst_ok I q1 (by rw [r1.int]; exact .int i) (kit_ty X.K "int" n (by simp) hn) (fin (by rcases hn with rfl | rfl | rfl | rfl | rfl <;> exact h))
    | str z => exact isinst_ok I q1 (by rw [r1.str]; exact .str z) (kit_ty X.K "str" n (by simp) hn) (fin (by rcases hn with rfl | rfl | rfl | rfl | rfl <;> exact h))
    | tup us =>
      obtain ⟨a, ys, rfl, sq, rs⟩ := r1.tup
      cases q1
      obtain ⟨its, _, ⟨o, h1, h2, _⟩, _⟩ := I.tuple sq
      exact PySem.W.kia_one PySem.W.kitx_tuple I.kIn ⟨o, h1, h2⟩ (kit_ty X.K "tuple" n (by simp) hn) (fun z => nomatch z) (fin (by rcases hn with rfl | rfl | rfl | rfl | rfl <;> exact h))
    | ref a =>
      have h' : oq (match H3 a with
        | some (.lst _) => some (n == "list")
        | some (.dct _) => some (n == "dict")
        | _ => none) fun b => Q3 (.bl b) H3 := h
      rw [r1.ref] at q1
      cases e : H3 a with
      | none => rw [e] at h'; exact h'.elim
      | some o =>
        rw [e] at h'
        cases o with
        | lst ls =>
          obtain ⟨zs, hH, _⟩ := sh a _ e
          exact isinst_ok I q1 (.lst hH) (kit_ty X.K "list" n (by simp) hn) (fin (by rcases hn with rfl | rfl | rfl | rfl | rfl <;> exact h'))
        | dct ls =>
          obtain ⟨zs, hH, _⟩ := sh a _ e
          exact isinst_ok I q1 (.dK hH) (kit_ty X.K "dict" n (by simp) hn) (fin (by rcases hn with rfl | rfl | rfl | rfl | rfl <;> exact h'))
        | rol ls => exact h'.elim
    | ty m => exact h.elim

/-! ### methods -/
variable {o : Expr} {to : TE3} {name : Str} {apos cpos : Pos} {m : T → List T → Hp3 → VK3 → Prop}
def ty3 (Ty : String) : T → Hp3 → Prop := fun x H => match x with
  | .str _ => Ty = "str"
  | .ref a => Ty = "list" ∧ match H a with
    | some (.lst _) => True
    | some (.rol _) => True
    | _ => False
  | _ => False
theorem ty3_V {K : PySem.W.Frag} {H : Hp} {H3 : Hp3} {t : T} {v : V} (sh : SimH K H3 H) (r : Rep K H t v) (h : ty3 Ty t H3) : tyV K Ty v H := by
  cases t with
  | str z => rw [r.str]; exact h
  | ref a =>
    rw [r.ref]
    refine .inl ⟨h.1, ?_⟩
    have h2 := h.2
    cases e : H3 a with
    | none => rw [e] at h2; exact h2.elim
    | some o =>
      rw [e] at h2
      cases o with
      | lst ts => obtain ⟨xs, sq, _⟩ := sh.sqL (.inl e); exact ⟨xs, sq⟩
      | rol ts => obtain ⟨xs, sq, _⟩ := sh.sqL (.inr e); exact ⟨xs, sq⟩
      | dct _ => exact h2.elim
  | _ => exact h.elim
def tBM3 (Ty : String) (m : T → List T → Hp3 → VK3 → Prop) (to : TE3) (t : TA3) : TE3 := fun σ H Q => to σ H fun x H1 => ty3 Ty x H1 ∧ t σ H1 fun xs H2 => m x xs H2 Q
theorem e3_bm (pa : PlainAttrs Ty) (slot : Slot Ty name id) (hty : typeOf (.builtin id) = pure (.type "method_descriptor")) (hm : MtR3 X id m) (ho : PE3 X o to) (ha : PA3 X (e :: es) t)
    (hbase : attributeBase o name X.env (eval o X.env) = eval o X.env := by rfl)
    (hfew : ((backTo cpos (starEach (e :: es) X.env)).all (fun x => !x.1) && (backToKw cpos (keywordEach [] X.env)).all (fun x => x.1.isSome)
      && decide ((e :: es).length + ([] : List Keyword).length + (if ([] : List Keyword).isEmpty then 0 else 1) < 30)) = true := by rfl)
    (hline : (apos.endLine == cpos.line) = true := by rfl) (hs : starEach (e :: es) X.env = (false, eval e X.env) :: starEach es X.env := by rfl) (hplain : (backTo cpos (starEach es X.env)).any (·.1) = false := by rfl) :
    PE3 X (.Call (.Attribute o name apos) (e :: es) [] cpos) (tBM3 Ty m to t) := by
  refine PE.imp (pe_bm pa slot hty hm ho ha hbase hfew hline hs hplain) ?_
  rintro σ H Q ⟨σ3, H3, Q3, ss, sh, h, k⟩
  exact ⟨σ3, H3, _, ss, sh, h, fun x H1 tx H31 le1 sh1 rx q1 => ⟨ty3_V sh1 rx q1.1, σ3, H31, _, ss.mono le1, sh1, q1.2, fun vs H2 ts H32 le2 sh2 rs q2 => ⟨tx, ts, H32, Q3, rx.mono le2, rs, sh2, q2, k.at (le1.trans le2)⟩⟩⟩
def r3App : T → List T → Hp3 → VK3 → Prop := fun x ts H Q => match x, ts with
  | .ref a, [t] => match H a with
    | some (.lst xs) => xs.length < sizeLine ∧ Q .non (up3 H a (.lst (xs ++ [t])))
    | _ => False
  | _, _ => False
theorem m3_append : MtR3 X "list.append" r3App := by
  refine MtR.imp mt_append ?_
  rintro x xs H Q ⟨tx, ts, H3, Q3, rx, rs, sh, h, k⟩
  match tx, ts, h, rx, rs with
  | .ref a, [t], h, rx, rs =>
    obtain ⟨v, rfl, rv⟩ := rs.one'
    have h' : (match H3 a with
      | some (.lst xs) => xs.length < sizeLine ∧ Q3 .non (up3 H3 a (.lst (xs ++ [t])))
      | _ => False) := h
    split at h'
    · rename_i ls e
      obtain ⟨ys, hH, r⟩ := sh a _ e
      exact ⟨a, ys, v, rx.ref, rfl, hH, by rw [← r.length]; exact h'.1, k _ _ _ _ (wr_tupLe (by rw [hH]; exact trivial)) (sh.wrL hH (r.append (.cons rv .nil))) .ofNon h'.2⟩
    · exact h'.elim
def r3Ext : T → List T → Hp3 → VK3 → Prop := fun x ts H Q => match x, ts with
  | .ref a, [.ref b] => match H a, H b with
    | some (.lst xs), some (.lst ys) => xs.length + ys.length ≤ sizeLine ∧ Q .non (up3 H a (.lst (xs ++ ys)))
    | _, _ => False
  | _, _ => False
theorem m3_extend : MtR3 X "list.extend" r3Ext := by
  refine MtR.imp mt_extend ?_
  rintro x xs H Q ⟨tx, ts, H3, Q3, rx, rs, sh, h, k⟩
  match tx, ts, h, rx, rs with
  | .ref a, [.ref b], h, rx, rs =>
    obtain ⟨v, rfl, rv⟩ := rs.one'
    have h' : (match H3 a, H3 b with
      | some (.lst xs), some (.lst ys) => xs.length + ys.length ≤ sizeLine ∧ Q3 .non (up3 H3 a (.lst (xs ++ ys)))
      | _, _ => False) := h
    split at h'
    · rename_i ls ms e1 e2
      obtain ⟨ys, hH, r⟩ := sh a _ e1
      obtain ⟨zs, hH2, r2⟩ := sh b _ e2
      exact ⟨a, b, ys, zs, rx.ref, by rw [rv.ref], hH, hH2, by rw [← r.length, ← r2.length]; exact h'.1, k _ _ _ _ (wr_tupLe (by rw [hH]; exact trivial)) (sh.wrL hH (r.append r2)) .ofNon h'.2⟩
    · exact h'.elim
/-- xs.pop(i) -/
def r3PopAt : T → List T → Hp3 → VK3 → Prop := fun x ts H Q => match x, ts with
  | .ref a, [.int i] => match H a with
    | some (.lst xs) => oq (ixN xs.length i) fun j => oq (xs[j]?) fun t => Q t (up3 H a (.lst (xs.eraseIdx j)))
    | _ => False
  | _, _ => False
theorem m3_popAt : MtR3 X "list.pop" r3PopAt := by
  intro pins s σ H x xs v us Q I rx0 rs0 hh
  obtain ⟨tx, ts, H3, Q3, rx, rs, sh, h, k⟩ := hh
  refine mt_popAt pins s σ H x xs v us Q I rx0 rs0 ?_
  match tx, ts, h, rx, rs with
  | .ref a, [.int i], h, rx, rs =>
    obtain ⟨w, rfl, rv⟩ := rs.one'
    have h' : (match H3 a with
      | some (.lst xs) => oq (ixN xs.length i) fun j => oq (xs[j]?) fun t => Q3 t (up3 H3 a (.lst (xs.eraseIdx j)))
      | _ => False) := h
    split at h'
    · rename_i ls e
      obtain ⟨ys, hH, r⟩ := sh a _ e
      have hz := (I.lstM hH).1
      cases ej : ixN ls.length i with
      | none => rw [ej] at h'; exact h'.elim
      | some j =>
        rw [ej] at h'
        cases et : ls[j]? with
        | none => simp only [oq, et] at h'
        | some t =>
          have h2 : Q3 t (up3 H3 a (.lst (ls.eraseIdx j))) := by simpa only [oq, et] using h'
          obtain ⟨g1, g2, g3, g4⟩ := ixN_seq ej
          obtain ⟨y, ey, ry⟩ := r.get et
          have hl := r.length
          have hb := line63
          have le : TupLe X.K H (upd H a (.lst (ys.eraseIdx j))) := wr_tupLe (by rw [hH]; exact trivial)
          exact ⟨a, ys, i, j, y, rx.ref, by rw [rv.int], hH, by omega, by omega, by rw [← hl]; exact g1, ey, k _ _ _ _ le (sh.wrL hH (r.eraseIdx j)) (ry.mono le) h2⟩
    · exact h'.elim
/-- texts of a row -/
def strs3 : List T → Option (List Str)
  | [] => some []
  | .str x :: r => (strs3 r).map (x :: ·)
  | _ => none
theorem strs3_map : ∀ (ns : List Str), strs3 (ns.map T.str) = some ns
  | [] => rfl
  | n :: r => by simp [strs3, strs3_map r]
theorem strs3_vals {K : PySem.W.Frag} {H : Hp} : ∀ {ts : List T} {xs : List V} {us : List Value} {ns : List Str}, strs3 ts = some ns → Reps K H ts xs → Vals xs us → StrsAre us ns
  | [], xs, us, ns, e, r, v => by
    cases e
    rw [r.inv0] at v
    cases v
    exact .nil
  | .str i :: l, xs, us, ns, e, r, v => by
    obtain ⟨x, xr, rfl, rx, rr⟩ := r.inv
    cases v with
    | cons a b =>
      rw [rx.str] at a
      obtain ⟨t, rfl⟩ := a
      cases hl : strs3 l with
      | none => simp [strs3, hl] at e
      | some ms =>
        simp [strs3, hl] at e
        subst e
        exact .cons _ _ (strs3_vals hl rr b)
  | .non :: _, _, _, _, e, _, _ => by simp [strs3] at e
  | .bl _ :: _, _, _, _, e, _, _ => by simp [strs3] at e
  | .int _ :: _, _, _, _, e, _, _ => by simp [strs3] at e
  | .tup _ :: _, _, _, _, e, _, _ => by simp [strs3] at e
  | .ref _ :: _, _, _, _, e, _, _ => by simp [strs3] at e
  | .ty _ :: _, _, _, _, e, _, _ => by simp [strs3] at e
end
end L3

set_option Elab.async false
set_option linter.all false
set_option maxRecDepth 100000
set_option maxHeartbeats 1000000
namespace L3
open PySem PySem.Spec PyProof.Rows L2
section
variable {X : Cx}
def jOk (z : Str) (ys : List Str) : Prop := (ys.map (·.length)).sum + ys.length * z.length ≤ 16777216
def r3Join : T → List T → Hp3 → VK3 → Prop := fun x ts H Q => match x, ts with
  | .str z, [.ref a] => match H a with
    | some (.lst xs) => oq (strs3 xs) fun ys => jOk z ys ∧ Q (.str (PySem.Txt.join z ys)) H
    | some (.rol xs) => oq (strs3 xs) fun ys => jOk z ys ∧ Q (.str (PySem.Txt.join z ys)) H
    | _ => False
  | .str z, [.tup xs] => oq (strs3 xs) fun ys => jOk z ys ∧ Q (.str (PySem.Txt.join z ys)) H
  | _, _ => False
theorem m3_join : MtR3 X "str.join" r3Join := by
  intro pins s σ H x xs v us Q I rx0 rs0 hh
  obtain ⟨tx, ts, H3, Q3, rx, rs, sh, h, k⟩ := hh
  have fin : ∀ {y : Str}, Q3 (.str y) H3 → ∀ t' kk, EP X pins σ Q (.str y t') { s with toks := kk } := fun q t' kk => ⟨.str _, H, I.tok kk, ⟨t', rfl⟩, k _ _ _ _ .refl sh .ofStr q⟩
  match tx, ts, h, rx, rs with
  | .str z, [.ref a], h, rx, rs =>
    obtain ⟨w, rfl, rv⟩ := rs.one'
    obtain ⟨u, rfl, ru⟩ := vals1 rs0
    rw [rv.ref] at ru
    cases ru
    rw [rx.str] at rx0
    obtain ⟨t, rfl⟩ := rx0
    have main : ∀ {ls : List T} {ys : List V}, SqL X.K H a ys → Reps X.K H ls ys → oq (strs3 ls) (fun ys => jOk z ys ∧ Q3 (.str (PySem.Txt.join z ys)) H3) → wpAny (model X.prog X.w) X.A (call (.builtin "str.join") [.str z t, .ref a]) (EP X pins σ Q) X.xe s := by
      intro ls ys sq r q
      cases e : strs3 ls with
      | none => rw [e] at q; exact q.elim
      | some zs =>
        rw [e] at q
        obtain ⟨its, rvs, hl, _⟩ := I.list sq
        exact join_list hl.isList (strs3_vals e r rvs) q.1 (fin q.2)
    have h' : (match H3 a with
      | some (.lst xs) => oq (strs3 xs) fun ys => jOk z ys ∧ Q3 (.str (PySem.Txt.join z ys)) H3
      | some (.rol xs) => oq (strs3 xs) fun ys => jOk z ys ∧ Q3 (.str (PySem.Txt.join z ys)) H3
      | _ => False) := h
    split at h'
    · rename_i ls e
      obtain ⟨ys, sq, r⟩ := sh.sqL (.inl e)
      exact main sq r h'
    · rename_i ls e
      obtain ⟨ys, sq, r⟩ := sh.sqL (.inr e)
      exact main sq r h'
    · exact h'.elim
  | .str z, [.tup ls], h, rx, rs =>
    obtain ⟨w, rfl, rv⟩ := rs.one'
    obtain ⟨u, rfl, ru⟩ := vals1 rs0
    obtain ⟨a, ys, rfl, sq, r⟩ := rv.tup
    cases ru
    rw [rx.str] at rx0
    obtain ⟨t, rfl⟩ := rx0
    have q : oq (strs3 ls) (fun ys => jOk z ys ∧ Q3 (.str (PySem.Txt.join z ys)) H3) := h
    cases e : strs3 ls with
    | none => rw [e] at q; exact q.elim
    | some zs =>
      rw [e] at q
      obtain ⟨its, rvs, hl, _⟩ := I.tuple sq
      exact join_tuple hl (strs3_vals e r rvs) q.1 (fin q.2)
/-- z.index(y) -/
def r3Index : T → List T → Hp3 → VK3 → Prop := fun x ts H Q => match x, ts with
  | .str z, [.str y] => match Builtin.Str.occurrences z y 0 z.length 1 with
    | i :: _ => Q (.int i) H
    | [] => False
  | _, _ => False
theorem m3_index : MtR3 X "str.index" r3Index := by
  intro pins s σ H x xs v us Q I rx0 rs0 hh
  obtain ⟨tx, ts, H3, Q3, rx, rs, sh, h, k⟩ := hh
  match tx, ts, h, rx, rs with
  | .str z, [.str y], h, rx, rs =>
    obtain ⟨w, rfl, rv⟩ := rs.one'
    obtain ⟨u, rfl, ru⟩ := vals1 rs0
    rw [rv.str] at ru
    obtain ⟨t', rfl⟩ := ru
    rw [rx.str] at rx0
    obtain ⟨t, rfl⟩ := rx0
    have h' : (match Builtin.Str.occurrences z y 0 z.length 1 with
      | i :: _ => Q3 (.int i) H3
      | [] => False) := h
    split at h'
    · rename_i i rest e
      exact SC.index e ⟨.int i, H, I.tok _, ⟨_, rfl⟩, k _ _ _ _ .refl sh .ofInt h'⟩
    · exact h'.elim
end
end L3

set_option Elab.async false
set_option linter.all false
set_option maxRecDepth 100000
set_option maxHeartbeats 1000000
namespace L3
open PySem PySem.Spec PyProof.Rows L2

/-! ### a comprehension's names, by one look -/
def compLook (n0 : List (Str × NameKind)) (N : List Str) (kind : Bool) (names : List (Str × NameKind)) (N' : List Str) (nt : Nat) (cap : List Nat) : Bool :=
  kind && names.all (fun y => y.2 != .cell) && names.all (fun x => x.2 != .local || names.lookup x.1 == some .local) && names.all (fun y => y.2 != .free || n0.lookup y.1 == some .cell || n0.lookup y.1 == some .free)
    && N'.length == nt + cap.length && (List.range cap.length).all fun j => match N'[nt + j]?, cap[j]? with
      | some x, some i => N[i]? == some x && names.lookup x == some .free
      | _, _ => false
theorem compSc {X : Cx} {N' : List Str} {nt : Nat} {cap : List Nat} {scope : Scope} {n0 : List (Str × NameKind)} {N : List Str} (h0 : X.env.scope.names = n0) (hN : X.N = N)
    (h : compLook n0 N (scope.kind == .function) scope.names N' nt cap = true) : CompSc X N' nt cap scope := by
  unfold compLook at h
  simp only [Bool.and_eq_true, List.all_eq_true, beq_iff_eq, bne_iff_ne, Bool.or_eq_true, List.mem_range] at h
  obtain ⟨⟨⟨⟨⟨h1, h2⟩, h3⟩, h4⟩, h5⟩, h6⟩ := h
  refine ⟨h1, h2, fun x hx e => (h3 x hx).resolve_left fun z => z e, fun y hy e => ?_, h5, fun j x e => ?_⟩
  · show X.env.scope.names.lookup y.1 = _ ∨ X.env.scope.names.lookup y.1 = _
    rw [h0]
    rcases h4 y hy with (z | z) | z
    · exact absurd e z
    · exact .inl z
    · exact .inr z
  · have hj : j < cap.length := by
      have := (List.getElem?_eq_some_iff.mp e).1
      omega
    have q := h6 j hj
    rw [e] at q
    cases ec : cap[j]? with
    | none => rw [ec] at q; cases q
    | some i =>
      rw [ec] at q
      simp only [Bool.and_eq_true, beq_iff_eq] at q
      exact ⟨i, rfl, by rw [hN]; exact q.1, q.2⟩

/-! ### a def of the text, as the top has made it -/
structure G3 (K : PySem.W.Frag) (mg : Str → Option Value) (x : Str) (st : Stmt) (ps : List Str) (f : Addr) (fd : FuncData) : Prop where
  fn : Fun K x x st f fd
  b : Binds K fd ps []
  m : mg x = some (.ref f)
/-- the builtins' names are no globals -/
structure Bl (mg : Str → Option Value) : Prop where
  len_ : mg "len" = none
  sum_ : mg "sum" = none
  isinstance_ : mg "isinstance" = none
  all_ : mg "all" = none
  any_ : mg "any" = none
  list_ : mg "list" = none
  tuple_ : mg "tuple" = none
  int_ : mg "int" = none
  str_ : mg "str" = none
  bool_ : mg "bool" = none
  range_ : mg "range" = none
  zip_ : mg "zip" = none
  reversed_ : mg "reversed" = none
  enumerate_ : mg "enumerate" = none
theorem bt_len : bootBuiltins "len" = some (.builtin "len") := by decide +kernel
theorem bt_sum : bootBuiltins "sum" = some (.builtin "sum") := by decide +kernel
theorem bt_isinstance : bootBuiltins "isinstance" = some (.builtin "isinstance") := by decide +kernel
theorem bt_all : bootBuiltins "all" = some (.builtin "all") := by decide +kernel
theorem bt_any : bootBuiltins "any" = some (.builtin "any") := by decide +kernel
theorem bt_list : bootBuiltins "list" = some (.type "list") := by decide +kernel
theorem bt_tuple : bootBuiltins "tuple" = some (.type "tuple") := by decide +kernel
theorem bt_int : bootBuiltins "int" = some (.type "int") := by decide +kernel
theorem bt_str : bootBuiltins "str" = some (.type "str") := by decide +kernel
theorem bt_bool : bootBuiltins "bool" = some (.type "bool") := by decide +kernel
theorem Room.u30 {k : Nat} {A : Around} (r : Room k A) : A.units + 30 < cLine := by have := r.un; omega
theorem Room.u31 {k : Nat} {A : Around} (r : Room k A) : A.units + 31 < cLine := by have := r.un; omega
theorem Room.u1 {k : Nat} {A : Around} (r : Room k A) : A.units + 1 < cLine := by have := r.un; omega
end L3

set_option Elab.async false
set_option linter.all false
set_option maxRecDepth 100000
set_option maxHeartbeats 1000000
namespace L3
open PySem PySem.Spec PyProof.Rows L2
/-! ### the readings' equations, one step each: nothing is opened ahead of its arguments -/
section
variable {H : Hp3} {Q : VK3} {σ : St3}
def vq (o : Option (Option T)) (Q : T → Prop) : Prop := match o with
  | some (some t) => Q t
  | _ => False
theorem q_vq (t : T) (Q : T → Prop) : vq (some (some t)) Q = Q t := rfl
theorem q_var (i : Nat) : tVar3 i σ H Q = vq (σ[i]?) fun t => Q t H := rfl
def bq (x : T) (Q : Bool → Prop) : Prop := match x with
  | .bl k => Q k
  | _ => False
theorem q_bq (b : Bool) (Q : Bool → Prop) : bq (.bl b) Q = Q b := rfl
theorem q_test (t : TE3) (Q : Bool → Hp3 → Prop) : tTest3 t σ H Q = t σ H fun x H' => bq x fun k => Q k H' := rfl
theorem q_chain (r r' : R3) (ta tb tc : TE3) : tChain3 r r' ta tb tc σ H Q = ta σ H fun x H1 => tb σ H1 fun y H2 => r x y H2 fun z H3 => bq z fun k => if k = true then tc σ H3 fun w H4 => r' y w H4 Q else Q (.bl false) H3 := rfl
theorem q_andV (ta tb : TE3) : tAndV3 ta tb σ H Q = ta σ H fun x H1 => bq x fun c => if c = true then tb σ H1 Q else Q (.bl false) H1 := rfl
theorem q_orV (ta tb : TE3) : tOrV3 ta tb σ H Q = ta σ H fun x H1 => bq x fun c => if c = true then Q (.bl true) H1 else tb σ H1 Q := rfl
theorem q_notV (ta : TE3) : tNotV3 ta σ H Q = ta σ H fun x H1 => bq x fun c => Q (.bl (!c)) H1 := rfl
theorem q_oq {α : Type} (v : α) (Q : α → Prop) : oq (some v) Q = Q v := rfl
/-! ints -/
theorem q_I (C : Int → Int → Prop) (g : Int → Int → T) (i j : Int) : rI3 C g (.int i) (.int j) H Q = (C i j ∧ Q (g i j) H) := rfl
theorem q_I0 (g : Int → Int → T) (i j : Int) : rI03 g (.int i) (.int j) H Q = Q (g i j) H := rfl
theorem q_addI (i j : Int) : rAdd3 (.int i) (.int j) H Q = Q (.int (i + j)) H := rfl
theorem q_addS (i j : Str) : rAdd3 (.str i) (.str j) H Q = (i.length + j.length ≤ sizeLine ∧ Q (.str (i ++ j)) H) := rfl
theorem q_addT (xs ys : List T) : rAdd3 (.tup xs) (.tup ys) H Q = (xs ≠ [] ∧ xs.length + ys.length ≤ sizeLine ∧ Q (.tup (xs ++ ys)) H) := rfl
def catH (o u : Option O3) (H : Hp3) (Q : VK3) : Prop := match o, u with
  | some (.lst xs), some (.lst ys) => xs.length + ys.length ≤ sizeLine ∧ ∀ p, H p = none → Q (.ref p) (up3 H p (.lst (xs ++ ys)))
  | _, _ => False
theorem q_addL (a b : Addr) : rAdd3 (.ref a) (.ref b) H Q = catH (H a) (H b) H Q := rfl
theorem q_catH (xs ys : List T) : catH (some (.lst xs)) (some (.lst ys)) H Q = (xs.length + ys.length ≤ sizeLine ∧ ∀ p, H p = none → Q (.ref p) (up3 H p (.lst (xs ++ ys)))) := rfl
/-! ==, in -/
theorem q_eqI (n : Bool) (i j : Int) : r3Eq n (.int i) (.int j) H Q = Q (.bl (if n then !decide (i = j) else decide (i = j))) H := rfl
theorem q_eqS (n : Bool) (i j : Str) : r3Eq n (.str i) (.str j) H Q = Q (.bl (if n then !decide (i = j) else decide (i = j))) H := rfl
theorem q_eqB (n : Bool) (i j : Bool) : r3Eq n (.bl i) (.bl j) H Q = Q (.bl (if n then !decide (i = j) else decide (i = j))) H := rfl
theorem q_eqT (n : Bool) (xs ys : List T) : r3Eq n (.tup xs) (.tup ys) H Q = (xs.all (pl 20) = true ∧ ys.all (pl 20) = true ∧ Q (.bl (if n then !decide (xs = ys) else decide (xs = ys))) H) := rfl
def eqH (n : Bool) (a b : Addr) (o u : Option O3) (H : Hp3) (Q : VK3) : Prop := match o, u with
  | some (.lst xs), some (.lst ys) => a ≠ b ∧ xs.all (pl 20) = true ∧ ys.all (pl 20) = true ∧ Q (.bl (if n then !@decide (xs = ys) (instDecidableEqList xs ys) else @decide (xs = ys) (instDecidableEqList xs ys))) H
  | _, _ => False
theorem q_eqL (n : Bool) (a b : Addr) : r3Eq n (.ref a) (.ref b) H Q = eqH n a b (H a) (H b) H Q := rfl
theorem q_eqH (n : Bool) (a b : Addr) (xs ys : List T) : eqH n a b (some (.lst xs)) (some (.lst ys)) H Q = (a ≠ b ∧ xs.all (pl 20) = true ∧ ys.all (pl 20) = true ∧ Q (.bl (if n then !decide (xs = ys) else decide (xs = ys))) H) := rfl
theorem q_inT (n : Bool) (x : T) (ts : List T) : r3In n x (.tup ts) H Q = (pl 20 x = true ∧ ts.all (pl 20) = true ∧ Q (.bl (memB n x ts)) H) := rfl
theorem q_inS (n : Bool) (i j : Str) : r3In n (.str i) (.str j) H Q = Q (.bl (occ n i j)) H := rfl
def inH (n : Bool) (x : T) (o : Option O3) (H : Hp3) (Q : VK3) : Prop := match o with
  | some (.lst ts) => pl 20 x = true ∧ ts.all (pl 20) = true ∧ Q (.bl (memB n x ts)) H
  | some (.rol ts) => pl 20 x = true ∧ ts.all (pl 20) = true ∧ Q (.bl (memB n x ts)) H
  | _ => False
theorem q_inL (n : Bool) (x : T) (a : Addr) : r3In n x (.ref a) H Q = inH n x (H a) H Q := rfl
theorem q_inH (n : Bool) (x : T) (ts : List T) : inH n x (some (.lst ts)) H Q = (pl 20 x = true ∧ ts.all (pl 20) = true ∧ Q (.bl (memB n x ts)) H) := rfl
/-! items -/
def ixH (o : Option O3) (i : Int) (H : Hp3) (Q : VK3) : Prop := match o with
  | some (.lst ts) => oq (atI ts i) fun t => Q t H
  | some (.rol ts) => oq (atI ts i) fun t => Q t H
  | _ => False
theorem q_ixL (a : Addr) (i : Int) : r3Ix (.ref a) (.int i) H Q = ixH (H a) i H Q := rfl
theorem q_ixH (ts : List T) (i : Int) : ixH (some (.lst ts)) i H Q = oq (atI ts i) fun t => Q t H := rfl
theorem q_ixT (ts : List T) (i : Int) : r3Ix (.tup ts) (.int i) H Q = oq (atI ts i) fun t => Q t H := rfl
theorem q_ixS (z : Str) (i : Int) : r3Ix (.str z) (.int i) H Q = (z.length ≤ sizeLine ∧ oq (atI z.cps.toList i) fun c => Q (.str ⟨#[c]⟩) H) := rfl
def stH (o : Option O3) (a : Addr) (k : Int) (v : T) (H : Hp3) (Q : Hp3 → Prop) : Prop := match o with
  | some (.lst ts) => oq (ixN ts.length k) fun j => Q (up3 H a (.lst (ts.set j v)))
  | _ => False
theorem q_setL (a : Addr) (k : Int) (v : T) (Q : Hp3 → Prop) : r3SetL (.ref a) (.int k) v H Q = stH (H a) a k v H Q := rfl
theorem q_stH (ts : List T) (a : Addr) (k : Int) (v : T) (Q : Hp3 → Prop) : stH (some (.lst ts)) a k v H Q = oq (ixN ts.length k) fun j => Q (up3 H a (.lst (ts.set j v))) := rfl
/-! slices -/
def pq (x : T) (Q : Option Int → Prop) : Prop := match x with
  | .int i => Q (some i)
  | _ => False
theorem q_pq (i : Int) (Q : Option Int → Prop) : pq (.int i) Q = Q (some i) := rfl
theorem q_part (t : TE3) (Q : Option Int → Hp3 → Prop) : tPart3 t σ H Q = t σ H fun x H1 => pq x fun o => Q o H1 := rfl
def slH (o : Option O3) (lo hi : Option Int) (H : Hp3) (Q : VK3) : Prop := match o with
  | some (.lst ts) => ∀ p, H p = none → Q (.ref p) (up3 H p (.lst (cut3 ts lo hi)))
  | some (.rol ts) => ∀ p, H p = none → Q (.ref p) (up3 H p (.lst (cut3 ts lo hi)))
  | _ => False
theorem q_slL (a : Addr) (lo hi : Option Int) : r3Sl (.ref a) lo hi H Q = slH (H a) lo hi H Q := rfl
theorem q_slH (ts : List T) (lo hi : Option Int) : slH (some (.lst ts)) lo hi H Q = ∀ p, H p = none → Q (.ref p) (up3 H p (.lst (cut3 ts lo hi))) := rfl
theorem q_slHr (ts : List T) (lo hi : Option Int) : slH (some (.rol ts)) lo hi H Q = ∀ p, H p = none → Q (.ref p) (up3 H p (.lst (cut3 ts lo hi))) := rfl
theorem q_slT (ts : List T) (lo hi : Option Int) : r3Sl (.tup ts) lo hi H Q = (¬ (HT.sIx ts.length 0 lo = 0 ∧ HT.sIx ts.length ts.length hi = ts.length) ∧ Q (.tup (cut3 ts lo hi)) H) := rfl
theorem q_slS (z : Str) (lo hi : Option Int) : r3Sl (.str z) lo hi H Q = (z.length ≤ sizeLine ∧ Q (.str (PySem.Txt.slice z lo hi)) H) := rfl
/-! dicts -/
def dgH (o : Option O3) (k : Str) (H : Hp3) (Q : VK3) : Prop := match o with
  | some (.dct kvs) => oq (look3 k kvs) fun t => Q t H
  | _ => False
theorem q_D (a : Addr) (k : Str) : r3D (.ref a) (.str k) H Q = dgH (H a) k H Q := rfl
theorem q_dgH (kvs : List (Str × T)) (k : Str) : dgH (some (.dct kvs)) k H Q = oq (look3 k kvs) fun t => Q t H := rfl
def dpH (x y v : T) (H : Hp3) (Q : Hp3 → Prop) : Prop := match x, y with
  | .ref a, .str k => match H a with
    | some (.dct kvs) => kvs.length < sizeLine ∧ Q (up3 H a (.dct (put3 k v kvs)))
    | _ => False
  | _, _ => False
def dpO (o : Option O3) (a : Addr) (k : Str) (v : T) (H : Hp3) (Q : Hp3 → Prop) : Prop := match o with
  | some (.dct kvs) => kvs.length < sizeLine ∧ Q (up3 H a (.dct (put3 k v kvs)))
  | _ => False
theorem q_dput (td ty tv : TE3) (D : Ends3) : sDPut3 td ty tv D σ H = tv σ H fun v H1 => td σ H1 fun x H2 => ty σ H2 fun y H3 => dpH x y v H3 fun H4 => D.nx σ H4 := rfl
theorem q_dpH (a : Addr) (k : Str) (v : T) (Q : Hp3 → Prop) : dpH (.ref a) (.str k) v H Q = dpO (H a) a k v H Q := rfl
theorem q_dpO (kvs : List (Str × T)) (a : Addr) (k : Str) (v : T) (Q : Hp3 → Prop) : dpO (some (.dct kvs)) a k v H Q = (kvs.length < sizeLine ∧ Q (up3 H a (.dct (put3 k v kvs)))) := rfl
/-! calls -/
def lnH (o : Option O3) (H : Hp3) (Q : VK3) : Prop := match o with
  | some (.lst xs) => Q (.int xs.length) H
  | some (.rol xs) => Q (.int xs.length) H
  | _ => False
theorem q_lenL (a : Addr) : r3Len [.ref a] H Q = lnH (H a) H Q := rfl
theorem q_lnH (xs : List T) : lnH (some (.lst xs)) H Q = Q (.int xs.length) H := rfl
theorem q_lenT (xs : List T) : r3Len [.tup xs] H Q = Q (.int xs.length) H := rfl
theorem q_lenS (z : Str) : r3Len [.str z] H Q = (z.length ≤ sizeLine ∧ Q (.int z.length) H) := rfl
def liH (o : Option O3) (H : Hp3) (Q : VK3) : Prop := match o with
  | some (.lst xs) => ∀ p, H p = none → Q (.ref p) (up3 H p (.lst xs))
  | some (.rol xs) => ∀ p, H p = none → Q (.ref p) (up3 H p (.lst xs))
  | _ => False
theorem q_listL (a : Addr) : r3List [.ref a] H Q = liH (H a) H Q := rfl
theorem q_liH (xs : List T) : liH (some (.lst xs)) H Q = ∀ p, H p = none → Q (.ref p) (up3 H p (.lst xs)) := rfl
theorem q_listT (xs : List T) : r3List [.tup xs] H Q = ∀ p, H p = none → Q (.ref p) (up3 H p (.lst xs)) := rfl
def tpH (o : Option O3) (H : Hp3) (Q : VK3) : Prop := match o with
  | some (.lst xs) => Q (.tup xs) H
  | some (.rol xs) => Q (.tup xs) H
  | _ => False
theorem q_tupL (a : Addr) : r3Tuple [.ref a] H Q = tpH (H a) H Q := rfl
theorem q_tpH (xs : List T) : tpH (some (.lst xs)) H Q = Q (.tup xs) H := rfl
theorem q_tupT (xs : List T) : r3Tuple [.tup xs] H Q = Q (.tup xs) H := rfl
theorem q_intI (i : Int) : r3Int [.int i] H Q = Q (.int i) H := rfl
theorem q_intB (b : Bool) : r3Int [.bl b] H Q = Q (.int (if b then 1 else 0)) H := rfl
theorem q_strI (i : Int) : r3Str [.int i] H Q = (i.natAbs.log2 < 1920 ∧ Q (.str (toString i)) H) := rfl
def smH (o : Option O3) (H : Hp3) (Q : VK3) : Prop := match o with
  | some (.lst xs) => oq (ints3 xs) fun ns => Q (.int ns.sum) H
  | some (.rol xs) => oq (ints3 xs) fun ns => Q (.int ns.sum) H
  | _ => False
theorem q_sumL (a : Addr) : r3Sum [.ref a] H Q = smH (H a) H Q := rfl
theorem q_smH (xs : List T) : smH (some (.lst xs)) H Q = oq (ints3 xs) fun ns => Q (.int ns.sum) H := rfl
theorem q_isi (x : T) (n : String) : r3Isi [x, .ty n] H Q = ((n = "str" ∨ n = "int" ∨ n = "bool" ∨ n = "tuple" ∨ n = "list") ∧ oq (isT n x H) fun b => Q (.bl b) H) := rfl
/-! methods -/
theorem q_tyS (Ty : String) (z : Str) : ty3 Ty (.str z) H = (Ty = "str") := rfl
def tyH (o : Option O3) : Prop := match o with
  | some (.lst _) => True
  | some (.rol _) => True
  | _ => False
theorem q_tyL (Ty : String) (a : Addr) : ty3 Ty (.ref a) H = (Ty = "list" ∧ tyH (H a)) := rfl
theorem q_tyH (xs : List T) : tyH (some (.lst xs)) = True := rfl
def apH (o : Option O3) (a : Addr) (t : T) (H : Hp3) (Q : VK3) : Prop := match o with
  | some (.lst xs) => xs.length < sizeLine ∧ Q .non (up3 H a (.lst (xs ++ [t])))
  | _ => False
theorem q_app (a : Addr) (t : T) : r3App (.ref a) [t] H Q = apH (H a) a t H Q := rfl
theorem q_apH (xs : List T) (a : Addr) (t : T) : apH (some (.lst xs)) a t H Q = (xs.length < sizeLine ∧ Q .non (up3 H a (.lst (xs ++ [t])))) := rfl
def exH (o u : Option O3) (a : Addr) (H : Hp3) (Q : VK3) : Prop := match o, u with
  | some (.lst xs), some (.lst ys) => xs.length + ys.length ≤ sizeLine ∧ Q .non (up3 H a (.lst (xs ++ ys)))
  | _, _ => False
theorem q_ext (a b : Addr) : r3Ext (.ref a) [.ref b] H Q = exH (H a) (H b) a H Q := rfl
theorem q_exH (xs ys : List T) (a : Addr) : exH (some (.lst xs)) (some (.lst ys)) a H Q = (xs.length + ys.length ≤ sizeLine ∧ Q .non (up3 H a (.lst (xs ++ ys)))) := rfl
def poH (o : Option O3) (a : Addr) (i : Int) (H : Hp3) (Q : VK3) : Prop := match o with
  | some (.lst xs) => oq (ixN xs.length i) fun j => oq (xs[j]?) fun t => Q t (up3 H a (.lst (xs.eraseIdx j)))
  | _ => False
theorem q_pop (a : Addr) (i : Int) : r3PopAt (.ref a) [.int i] H Q = poH (H a) a i H Q := rfl
theorem q_poH (xs : List T) (a : Addr) (i : Int) : poH (some (.lst xs)) a i H Q = oq (ixN xs.length i) fun j => oq (xs[j]?) fun t => Q t (up3 H a (.lst (xs.eraseIdx j))) := rfl
def joH (o : Option O3) (z : Str) (H : Hp3) (Q : VK3) : Prop := match o with
  | some (.lst xs) => oq (strs3 xs) fun ys => jOk z ys ∧ Q (.str (PySem.Txt.join z ys)) H
  | some (.rol xs) => oq (strs3 xs) fun ys => jOk z ys ∧ Q (.str (PySem.Txt.join z ys)) H
  | _ => False
theorem q_joinL (z : Str) (a : Addr) : r3Join (.str z) [.ref a] H Q = joH (H a) z H Q := rfl
theorem q_joH (xs : List T) (z : Str) : joH (some (.lst xs)) z H Q = oq (strs3 xs) fun ys => jOk z ys ∧ Q (.str (PySem.Txt.join z ys)) H := rfl
theorem q_joinT (z : Str) (xs : List T) : r3Join (.str z) [.tup xs] H Q = oq (strs3 xs) fun ys => jOk z ys ∧ Q (.str (PySem.Txt.join z ys)) H := rfl
def idH (o : List Nat) (H : Hp3) (Q : VK3) : Prop := match o with
  | i :: _ => Q (.int i) H
  | [] => False
theorem q_index (z y : Str) : r3Index (.str z) [.str y] H Q = idH (Builtin.Str.occurrences z y 0 z.length 1) H Q := rfl
theorem q_idH (i : Nat) (r : List Nat) : idH (i :: r) H Q = Q (.int i) H := rfl
/-! loops' rows, targets -/
def rgq (vs : List T) (H : Hp3) (R : List T → (Hp3 → Prop) → Hp3 → Prop) : Prop := match vs with
  | [.int j] => -(2 ^ 62) ≤ j ∧ j < 2 ^ 62 ∧ R (rng3 0 j.toNat) still0 H
  | [.int i, .int j] => (-(2 ^ 62) ≤ i ∧ i < 2 ^ 62 ∧ -(2 ^ 62) ≤ j ∧ j < 2 ^ 62) ∧ R (rng3 i (j - i).toNat) still0 H
  | _ => False
theorem q_rng (ta : TA3) (R : List T → (Hp3 → Prop) → Hp3 → Prop) : iRng3 ta σ H R = ta σ H fun vs H1 => rgq vs H1 R := rfl
theorem q_rg1 (j : Int) (R : List T → (Hp3 → Prop) → Hp3 → Prop) : rgq [.int j] H R = (-(2 ^ 62) ≤ j ∧ j < 2 ^ 62 ∧ R (rng3 0 j.toNat) still0 H) := rfl
theorem q_rg2 (i j : Int) (R : List T → (Hp3 → Prop) → Hp3 → Prop) : rgq [.int i, .int j] H R = ((-(2 ^ 62) ≤ i ∧ i < 2 ^ 62 ∧ -(2 ^ 62) ≤ j ∧ j < 2 ^ 62) ∧ R (rng3 i (j - i).toNat) still0 H) := rfl
def tuq (x : T) (H : Hp3) (R : List T → (Hp3 → Prop) → Hp3 → Prop) : Prop := match x with
  | .tup ts => R ts still0 H
  | _ => False
theorem q_iTup (tl : TE3) (R : List T → (Hp3 → Prop) → Hp3 → Prop) : iTup3 tl σ H R = tl σ H fun x H1 => tuq x H1 R := rfl
theorem q_tuq (ts : List T) (R : List T → (Hp3 → Prop) → Hp3 → Prop) : tuq (.tup ts) H R = R ts still0 H := rfl
def liq (x : T) (H : Hp3) (R : List T → (Hp3 → Prop) → Hp3 → Prop) : Prop := match x with
  | .ref a => match H a with
    | some (.lst ts) => R ts (stillL a ts) H
    | some (.rol ts) => R ts (stillL a ts) H
    | _ => False
  | _ => False
def liO (o : Option O3) (a : Addr) (H : Hp3) (R : List T → (Hp3 → Prop) → Hp3 → Prop) : Prop := match o with
  | some (.lst ts) => R ts (stillL a ts) H
  | some (.rol ts) => R ts (stillL a ts) H
  | _ => False
theorem q_iList (tl : TE3) (R : List T → (Hp3 → Prop) → Hp3 → Prop) : iList3 tl σ H R = tl σ H fun x H1 => liq x H1 R := rfl
theorem q_liq (a : Addr) (R : List T → (Hp3 → Prop) → Hp3 → Prop) : liq (.ref a) H R = liO (H a) a H R := rfl
theorem q_liO (ts : List T) (a : Addr) (R : List T → (Hp3 → Prop) → Hp3 → Prop) : liO (some (.lst ts)) a H R = R ts (stillL a ts) H := rfl
theorem q_gNil (Q : St3 → Hp3 → Prop) : gNil3 [] σ H Q = Q σ H := rfl
theorem q_gCons (t : TG3) (u : TGs3) (x : T) (r : List T) (Q : St3 → Hp3 → Prop) : gCons3 t u (x :: r) σ H Q = t x σ H fun σ' H' => u r σ' H' Q := rfl
theorem q_gTup (n : Nat) (g : TGs3) (ts : List T) (Q : St3 → Hp3 → Prop) : gTup3 n g (.tup ts) σ H Q = (ts.length = n ∧ g ts σ H Q) := rfl
end

/-! ### places -/
theorem ixN_nat {n j : Nat} (h : j < n) : ixN n (j : Int) = some j := by
  unfold ixN
  rw [if_pos (Int.natCast_nonneg j), if_pos (by omega), Int.toNat_natCast]
theorem ix_z (n : Nat) : ixN (n + 1) 0 = some 0 := ixN_nat (j := 0) (Nat.succ_pos n)
theorem at0 {α : Type} (a : α) (r : List α) : atI (a :: r) 0 = some a := atI_nat (j := 0) rfl
theorem at1 {α : Type} (a b : α) (r : List α) : atI (a :: b :: r) 1 = some b := atI_nat (j := 1) rfl
theorem at2 {α : Type} (a b c : α) (r : List α) : atI (a :: b :: c :: r) 2 = some c := atI_nat (j := 2) rfl
theorem at3 {α : Type} (a b c d : α) (r : List α) : atI (a :: b :: c :: d :: r) 3 = some d := atI_nat (j := 3) rfl
theorem at_ex {α : Type} (xs : List α) (i : Int) (h0 : 0 ≤ i) (h1 : i < xs.length) : ∃ z, z ∈ xs ∧ atI xs i = some z := by
  obtain ⟨j, rfl⟩ := Int.eq_ofNat_of_zero_le h0
  have hj : j < xs.length := by omega
  exact ⟨xs[j], List.getElem_mem hj, atI_nat (List.getElem?_eq_getElem hj)⟩
theorem at_map {α β : Type} (f : α → β) (xs : List α) (i : Int) : atI (xs.map f) i = (atI xs i).map f := by
  unfold atI
  rw [List.length_map]
  cases ixN xs.length i with
  | none => rfl
  | some j => simp
theorem at_exI (ns : List Int) (i : Int) (h0 : 0 ≤ i) (h1 : i < ns.length) : ∃ z, atI (ns.map T.int) i = some (.int z) := by
  obtain ⟨z, _, h⟩ := at_ex ns i h0 h1
  exact ⟨z, by rw [at_map, h]; rfl⟩

/-! ### loops by what is left -/
theorem iter_go {g : TG3} {tb : TS3} {D : Ends3} {still : Hp3 → Prop} {ts : List T} {σ : St3} {H : Hp3} (I : List T → St3 → Hp3 → Prop) (h0 : I ts σ H) (hn : ∀ σ H, I [] σ H → still H ∧ D.nx σ H)
    (hs : ∀ t r σ H (N : St3 → Hp3 → Prop), I (t :: r) σ H → (∀ σ' H', I r σ' H' → N σ' H') → still H ∧ g t σ H fun σ2 H2 => tb { D with nx := N, ct := N, bk := D.nx } σ2 H2) : iter3 g tb D still ts σ H := by
  induction ts generalizing σ H with
  | nil => exact hn σ H h0
  | cons t r ih => exact hs t r σ H (iter3 g tb D still r) h0 fun σ' H' h => ih h
theorem cIter_go {g : TG3} {tt : TT3} {te : TE3} {still : Hp3 → Prop} {fin : List T → Hp3 → Prop} {ts ys : List T} {σ : St3} {H : Hp3} (I : List T → List T → St3 → Hp3 → Prop) (h0 : I ts ys σ H) (hn : ∀ ys σ H, I [] ys σ H → still H ∧ ys.length ≤ sizeLine ∧ fin ys H)
    (hs : ∀ t r ys σ H (N : List T → St3 → Hp3 → Prop), I (t :: r) ys σ H → (∀ ys' σ' H', I r ys' σ' H' → N ys' σ' H') →
      still H ∧ g t σ H fun σ2 H2 => tt σ2 H2 fun b H3 => if b = true then te σ2 H3 fun y H4 => ys.length < sizeLine ∧ N (ys ++ [y]) σ2 H4 else N ys σ2 H3) : cIter3 g tt te still fin ts ys σ H := by
  induction ts generalizing σ H ys with
  | nil => exact hn ys σ H h0
  | cons t r ih => exact hs t r ys σ H (cIter3 g tt te still fin r) h0 fun ys' σ' H' h => ih h
theorem q_prs0 (σ : St3) (H : Hp3) (Q : List (Str × T) → Hp3 → Prop) : prs3 [] σ H Q = Q [] H := rfl
theorem q_prs1 (k : Str) (tv : TE3) (r : List (Str × TE3)) (σ : St3) (H : Hp3) (Q : List (Str × T) → Hp3 → Prop) : prs3 ((k, tv) :: r) σ H Q = tv σ H fun y H2 => prs3 r σ H2 fun ps H3 => Q ((k, y) :: ps) H3 := rfl
theorem sx0 (n : Nat) : HT.sIx n 0 none = 0 := rfl
theorem cut_to {ts : List T} {k : Nat} : cut3 ts none (some (k : Int)) = ts.take k := by
  unfold cut3
  rw [sx0, HT.sIx_nat, List.drop_zero, Nat.sub_zero]
  by_cases h : k ≤ ts.length
  · rw [Nat.min_eq_left h]
  · rw [Nat.min_eq_right (by omega), List.take_length, List.take_of_length_le (by omega)]
theorem cut_from {ts : List T} {k : Nat} : cut3 ts (some (k : Int)) none = ts.drop k := by
  unfold cut3
  rw [HT.sIx_none, HT.sIx_nat]
  by_cases h : k ≤ ts.length
  · rw [Nat.min_eq_left h, List.take_of_length_le (by simp)]
  · rw [Nat.min_eq_right (by omega), List.drop_of_length_le (Nat.le_refl _), List.drop_of_length_le (by omega), List.take_nil]
theorem up3_none {H : Hp3} {a b : Addr} {o : O3} (h : up3 H a o b = none) : b ≠ a ∧ H b = none := by
  by_cases e : b = a
  · subst e; rw [up3_same] at h; cases h
  · rw [up3_ne e] at h; exact ⟨e, h⟩
theorem up3_comm {H : Hp3} {a b : Addr} {o u : O3} (h : a ≠ b) : up3 (up3 H a o) b u = up3 (up3 H b u) a o := by
  funext c
  by_cases h1 : c = b
  · subst h1; rw [up3_same, up3_ne (Ne.symm h), up3_same]
  · rw [up3_ne h1]
    by_cases h2 : c = a
    · subst h2; rw [up3_same, up3_same]
    · rw [up3_ne h2, up3_ne h2, up3_ne h1]
end L3

set_option Elab.async false
set_option linter.all false
set_option maxRecDepth 100000
set_option maxHeartbeats 1000000
namespace L3
open PySem PySem.Spec PyProof.Rows L2
/-- [f(x) for x in row], f without a trace -/
theorem cIter_pure {α : Type} (enc f : α → T) (as : List α) (rest : St3) {te : TE3} {still : Hp3 → Prop} {fin : List T → Hp3 → Prop} {v : Option T} {H : Hp3} (hst : still H) (hl : as.length ≤ sizeLine)
    (ht : ∀ a ∈ as, ∀ Q : VK3, Q (f a) H → te (some (enc a) :: rest) H Q) (hfin : fin (as.map f) H) : cIter3 (gName3 0) tYes3 te still fin (as.map enc) [] (v :: rest) H := by
  refine cIter_go (fun r ys σ H' => ∃ (rs ds : List α) (v : Option T), σ = v :: rest ∧ r = rs.map enc ∧ ys = ds.map f ∧ ds ++ rs = as ∧ H' = H) ⟨as, [], v, rfl, rfl, rfl, rfl, rfl⟩ ?_ ?_
  · rintro ys σ H' ⟨rs, ds, v, rfl, hrs, rfl, hsp, rfl⟩
    have hrs' : rs = [] := List.map_eq_nil_iff.mp hrs.symm
    subst hrs'
    rw [List.append_nil] at hsp
    subst hsp
    exact ⟨hst, by rw [List.length_map]; exact hl, hfin⟩
  · rintro x r ys σ H' N ⟨rs, ds, v, rfl, hrs, rfl, hsp, rfl⟩ hN
    cases rs with
    | nil => cases hrs
    | cons t rs =>
      injection hrs with e1 e2
      subst e1 e2
      refine ⟨hst, ?_⟩
      show te (some (enc t) :: rest) H' _
      refine ht t (by rw [← hsp]; simp) _ ⟨?_, hN _ _ _ ⟨rs, ds ++ [t], _, rfl, rfl, by simp, by rw [← hsp]; simp, rfl⟩⟩
      have := congrArg List.length hsp
      simp only [List.length_append, List.length_cons] at this
      rw [List.length_map]
      omega
end L3

set_option Elab.async false
set_option linter.all false
set_option maxRecDepth 100000
set_option maxHeartbeats 1000000
namespace L3
open PySem PySem.Spec PyProof.Rows L2
section
variable {X : Cx}
/-- bools of a row -/
def bools3 : List T → Option (List Bool)
  | [] => some []
  | .bl x :: r => (bools3 r).map (x :: ·)
  | _ => none
theorem bools3_map : ∀ (ns : List Bool), bools3 (ns.map T.bl) = some ns
  | [] => rfl
  | n :: r => by simp [bools3, bools3_map r]
theorem bools3_vals {K : PySem.W.Frag} {H : Hp} : ∀ {ts : List T} {xs : List V} {us : List Value} {bs : List Bool}, bools3 ts = some bs → Reps K H ts xs → Vals xs us → us = bs.map Value.bool
  | [], xs, us, bs, e, r, v => by
    cases e
    rw [r.inv0] at v
    cases v
    rfl
  | .bl i :: l, xs, us, bs, e, r, v => by
    obtain ⟨x, xr, rfl, rx, rr⟩ := r.inv
    cases v with
    | cons a b =>
      rw [rx.bl] at a
      cases hl : bools3 l with
      | none => simp [bools3, hl] at e
      | some ms =>
        simp [bools3, hl] at e
        subst e
        cases a
        rw [bools3_vals hl rr b]
        rfl
  | .non :: _, _, _, _, e, _, _ => by simp [bools3] at e
  | .int _ :: _, _, _, _, e, _, _ => by simp [bools3] at e
  | .str _ :: _, _, _, _, e, _, _ => by simp [bools3] at e
  | .tup _ :: _, _, _, _, e, _, _ => by simp [bools3] at e
  | .ref _ :: _, _, _, _, e, _, _ => by simp [bools3] at e
  | .ty _ :: _, _, _, _, e, _, _ => by simp [bools3] at e
def alH (o : Option O3) (H : Hp3) (Q : VK3) : Prop := match o with
  | some (.lst xs) => oq (bools3 xs) fun bs => Q (.bl (bs.all id)) H
  | some (.rol xs) => oq (bools3 xs) fun bs => Q (.bl (bs.all id)) H
  | _ => False
def r3All : List T → Hp3 → VK3 → Prop := fun ts H Q => match ts with
  | [.ref a] => alH (H a) H Q
  | _ => False
theorem q_all (a : Addr) {H : Hp3} {Q : VK3} : r3All [.ref a] H Q = alH (H a) H Q := rfl
theorem q_alH (xs : List T) {H : Hp3} {Q : VK3} : alH (some (.lst xs)) H Q = oq (bools3 xs) fun bs => Q (.bl (bs.all id)) H := rfl
theorem all_range (bs : List Bool) : (List.range bs.length).all (fun i => bs.getD i true) = bs.all id := by
  rw [Bool.eq_iff_iff, List.all_eq_true, List.all_eq_true]
  constructor
  · intro h b hb
    obtain ⟨i, hi, rfl⟩ := List.mem_iff_getElem.mp hb
    have := h i (List.mem_range.mpr hi)
    simpa [List.getD, hi] using this
  · intro h i hi
    have hi' := List.mem_range.mp hi
    have := h bs[i] (List.getElem_mem hi')
    simpa [List.getD, hi'] using this
theorem c3_all (hc : X.calm = true) : CallR3 X (.builtin "all") r3All := by
  intro pins s σ H xs us Q I rv h
  obtain ⟨ts, H3, Q3, r, sh, h, k⟩ := h
  match ts, h, r with
  | [.ref a], h, r =>
    obtain ⟨v, rfl, rv'⟩ := r.one'
    obtain ⟨u, rfl, ru⟩ := vals1 rv
    rw [rv'.ref] at ru
    cases ru
    have main : ∀ {ls : List T} {ys : List V}, SqL X.K H a ys → Reps X.K H ls ys → oq (bools3 ls) (fun bs => Q3 (.bl (bs.all id)) H3) → wpAny (model X.prog X.w) X.A (call (.builtin "all") [.ref a]) (EP X pins σ Q) X.xe s := by
      intro ls ys sq rs q
      cases e : bools3 ls with
      | none => rw [e] at q; exact q.elim
      | some bs =>
        rw [e] at q
        obtain ⟨its, rvs, hl, _⟩ := I.list sq
        have hi := bools3_vals e rs rvs
        subst hi
        have hlI : a ≠ s.heap.objs.size := fun z => by
          obtain ⟨o, n, eo, _⟩ := hl
          have := Heap.lt_size eo
          rw [z] at this
          exact Nat.lt_irrefl _ this
        refine call_all_walk (wpAny_pyIter_list hl.isList ?_)
        refine ⟨s.heap.objs.size, _, _, _, _, _, fun i => bs.getD i true, rfl, Walks.list (A := X.A.in1) (I.ok.hd hc) s.heap.objs.size a hlI (bs.map Value.bool).toArray, ⟨⟨_, Heap.get?_push_size _ rfl, rfl, rfl⟩, hl.isList.push _⟩, fun i v s' Q' E' hv hq => ?_, fun h' tk hk => ?_⟩
        · have hv' : (bs.map Value.bool)[i]? = some v := by simpa using hv
          rw [List.getElem?_map] at hv'
          cases eb : bs[i]? with
          | none => rw [eb] at hv'; cases hv'
          | some b =>
            rw [eb] at hv'
            cases hv'
            have : bs.getD i true = b := by simp [List.getD, eb]
            dsimp only at hq
            rw [this] at hq
            exact wpAny_truthy_bool hq
        · have hn : (bs.map Value.bool).toArray.size = bs.length := by simp
          rw [hn, all_range]
          refine ⟨.bl (bs.all id), H, I.kept fun b o e => hk b o (fun z => ?_) (Heap.get?_push_of_some _ e), rfl, k _ _ _ _ .refl sh .ofBl q⟩
          have := Heap.lt_size e
          rw [List.mem_singleton.mp z] at this
          exact Nat.lt_irrefl _ this
    have h' : alH (H3 a) H3 Q3 := h
    cases eo : H3 a with
    | none => rw [eo] at h'; exact h'.elim
    | some o =>
      rw [eo] at h'
      cases o with
      | lst ls =>
        obtain ⟨ys, sq, rs⟩ := sh.sqL (.inl eo)
        exact main sq rs h'
      | rol ls =>
        obtain ⟨ys, sq, rs⟩ := sh.sqL (.inr eo)
        exact main sq rs h'
      | dct _ => exact h'.elim
end
end L3

set_option Elab.async false
set_option linter.all false
set_option maxRecDepth 100000
set_option maxHeartbeats 4000000
namespace L3
open PySem PySem.Spec PyProof.Rows L2
theorem tu_norev : typeLookup (.type "tuple") "__reversed__" = pure none := by rw [typeLookup_type, builtinLookup_eq_fast]; kernel_rfl
theorem tu_nodict : isSubtype (.type "tuple") (.type "dict") = pure false := by rw [isSubtype_type]; kernel_rfl
theorem rv_init : Slot "reversed" "__init__" "object.__init__" := .of (owner := "object") (n := "__init__") (by rw [typeLookup_type, builtinLookup_eq_fast]; kernel_rfl) (by decide +kernel) (by decide +kernel) (by decide +kernel)
  (by first | exact .inr (by decide +kernel) | exact .inl (by decide +kernel)) (by rw [isSubtype_type]; kernel_rfl)
theorem rv_next : Slot "reversed" "__next__" "reversed.__next__" := .of (owner := "reversed") (n := "__next__") (by rw [typeLookup_type, builtinLookup_eq_fast]; kernel_rfl) (by decide +kernel) (by decide +kernel) (by decide +kernel)
  (by first | exact .inr (by decide +kernel) | exact .inl (by decide +kernel)) (by rw [isSubtype_type]; kernel_rfl)
theorem rv_iter : Slot "reversed" "__iter__" "reversed.__iter__" := .of (owner := "reversed") (n := "__iter__") (by rw [typeLookup_type, builtinLookup_eq_fast]; kernel_rfl) (by decide +kernel) (by decide +kernel) (by decide +kernel)
  (by first | exact .inr (by decide +kernel) | exact .inl (by decide +kernel)) (by rw [isSubtype_type]; kernel_rfl)
theorem rv_hint : Slot "reversed" "__length_hint__" "reversed.__length_hint__" := .of (owner := "reversed") (n := "__length_hint__") (by rw [typeLookup_type, builtinLookup_eq_fast]; kernel_rfl) (by decide +kernel) (by decide +kernel) (by decide +kernel)
  (by first | exact .inr (by decide +kernel) | exact .inl (by decide +kernel)) (by rw [isSubtype_type]; kernel_rfl)
theorem rv_own : Manifest.owners.lookup (String.ofList ['d', 'e', 's', 'r', 'e', 'v', 'e', 'r'].reverse) = some Manifest.sig_reversed := by kernel_rfl
theorem rv_next_e : entryFor table "reversed.__next__" = some Builtin.«reversed.__next__» := entryFor_of_tree (by kernel_rfl)
theorem rv_hint_e : entryFor table "reversed.__length_hint__" = some Builtin.«reversed.__length_hint__» := entryFor_of_tree (by kernel_rfl)
theorem rv_iter_e : entryFor table "reversed.__iter__" = some Builtin.«dict_keyiterator.__iter__» :=
  entryFor_alias (id' := "dict_keyiterator.__iter__") (by kernel_rfl) (by first | rfl | decide +kernel | (unfold String.splitOn; simp +decide [String.splitOnAux])) (by decide +kernel) (by kernel_rfl)
theorem rv_next_a (a : Value) : argsOk "reversed.__next__" ⟨[a], []⟩ := by
  unfold argsOk; rw [signature?_of (id := "reversed.__next__") (n := ['_', '_', 't', 'x', 'e', 'n', '_', '_']) (o := ['d', 'e', 's', 'r', 'e', 'v', 'e', 'r']) (by kernel_rfl) rv_own]; kernel_rfl
theorem rv_iter_a (a : Value) : argsOk "reversed.__iter__" ⟨[a], []⟩ := by
  unfold argsOk; rw [signature?_of (id := "reversed.__iter__") (n := ['_', '_', 'r', 'e', 't', 'i', '_', '_']) (o := ['d', 'e', 's', 'r', 'e', 'v', 'e', 'r']) (by kernel_rfl) rv_own]; kernel_rfl
theorem rv_hint_a (a : Value) : argsOk "reversed.__length_hint__" ⟨[a], []⟩ := by
  unfold argsOk; rw [signature?_of (id := "reversed.__length_hint__") (n := ['_', '_', 't', 'n', 'i', 'h', '_', 'h', 't', 'g', 'n', 'e', 'l', '_', '_']) (o := ['d', 'e', 's', 'r', 'e', 'v', 'e', 'r']) (by kernel_rfl) rv_own]; kernel_rfl
theorem rv_nolen : typeLookup (.type "reversed") "__len__" = pure none := by rw [typeLookup_type, builtinLookup_eq_fast]; kernel_rfl
def rvObj (t : Addr) (i : Int) : Obj := { cls := .type "reversed", data := .fields #[.ref t, rawInt i] }
def RvAt (h : Heap) (a t : Addr) (i : Int) : Prop := ∃ o, h.get? a = some o ∧ o.cls = .type "reversed" ∧ o.data = .fields #[.ref t, rawInt i]
theorem RvAt.ty {s : Shared} {a t : Addr} {i : Int} (x : RvAt s.heap a t i) : s.TypeIs (.ref a) "reversed" := let ⟨o, ho, hc, _⟩ := x; ⟨o, ho, hc⟩
theorem meets_rev_tup (t : Addr) (items : Array Value) (hsz : items.size ≤ sizeLine) : Meets (Builtin.«reversed.__new__» ⟨[.type "reversed", .ref t], []⟩) (fun _ R s => s.heap.IsTuple t items ∧
      ∀ tk, s.toks ≤ tk → R (.ok (.ret (.ref s.heap.objs.size))) { s with heap := s.heap.push (rvObj t ((items.size : Int) - 1)), toks := tk }) :=
  .of_wp fun prog w A R s h => by
    obtain ⟨hl, h⟩ := h
    unfold Builtin.«reversed.__new__»
    refine wpAny_bind (wpAny_of_eq (newClass_reversed _) ?_)
    try dsimp only
    refine wpAny_bind (wpAny_of_eq (a := ()) (by first | rfl | kernel_rfl) ?_)
    refine wpAny_bind (wpAny_of_eq (a := ()) (by first | rfl | kernel_rfl) ?_)
    try dsimp only
    refine wpAny_bind (wpAny_specialOf hl.typeIs tu_norev ?_)
    try dsimp only
    refine wpAny_bind ?_
    show wpAny _ A.in1 (isInstance (Value.ref t) (.type "dict") >>= fun b => if b = true then pure false else specialOf (Value.ref t) "__getitem__" >>= fun o => _) _ _ s
    refine wpAny_bind (wpAny_isInstance (b := false) hl.typeIs tu_nodict ?_)
    rw [if_neg Bool.false_ne_true]
    refine wpAny_bind (wpAny_specialOf hl.typeIs F.slot_tuple_getitem.lookup ?_)
    dsimp only
    rw [if_pos (by decide +kernel)]
    refine wpAny_pure ?_
    rw [if_neg (by decide)]
    refine wpAny_bind (len_tuple hl (by have := line63; omega) ?_)
    refine wpAny_bind (wpAny_of_eq (a := some (items.size : Int)) rfl ?_)
    dsimp only
    show wpAny _ _ (newObj (.type "reversed") (.fields #[.ref t, rawInt ((items.size : Int) - 1)]) >>= fun v => ret v) _ _ _
    refine wpAny_bind (wpAny_newObj_type ?_)
    exact wpAny_pure ⟨_, rfl, h _ (by show s.toks ≤ s.toks + 1 + 1; omega)⟩
theorem called_rev : TypeCalled "reversed" "reversed.__new__" "object.__init__" :=
  ⟨by decide +kernel, by decide +kernel, ⟨_, _, F.mro_reversed⟩, F.made_reversed, by decide +kernel, F.sub_reversed_self, rv_init⟩
section
variable {prog : Program} {w : World} {A : Around} {E : Value → Shared → Prop} {s : Shared}
theorem call_rev_tup {t : Addr} {items : Array Value} {Q : Value → Shared → Prop} (hl : s.heap.IsTuple t items) (hsz : items.size ≤ sizeLine)
    (h : ∀ tk, s.toks ≤ tk → Q (.ref s.heap.objs.size) { s with heap := s.heap.push (rvObj t ((items.size : Int) - 1)), toks := tk }) :
    wpAny (model prog w) A (call (.type "reversed") [.ref t]) Q E s := by
  refine callType_new called_rev (by decide) (F.typeCall_reversed_1 _) (F.newCall_reversed_1 _) (fun obj => F.args_object_init_2 obj _) F.entry_reversed_new (meets_rev_tup t items hsz) ⟨hl, fun tk htk => ?_⟩
  exact ⟨⟨_, Heap.get?_push_size _ rfl, rfl⟩, h tk htk⟩
theorem rv_item {it t : Addr} {i : Nat} {items : Array Value} {x : Value} {Q : Option Value → Shared → Prop} (hit : RvAt s.heap it t (i : Int)) (hl : s.heap.IsTuple t items) (hsz : items.size ≤ sizeLine) (hx : items[i]? = some x)
    (hQ : ∀ h' tk, s.toks ≤ tk → RvAt h' it t ((i : Int) - 1) → Heap.SameBut it s.heap h' → Q (some x) { s with heap := h', toks := tk }) : wpAny (model prog w) A (pyNext (.ref it)) Q E s := by
  obtain ⟨o, ho, hc, hd⟩ := id hit
  have hi := (Array.getElem?_eq_some_iff.mp hx).1
  have := line63
  unfold pyNext
  refine wpAny_bind (wpAny_attempt (wpAny_callSpecial?_slot (name := Str.ofString "__next__") hit.ty rv_next
    (wpAny_call_entry rv_next hit.ty rv_next_e ?_ (rv_next_a _))))
  unfold Builtin.«reversed.__next__»
  refine wpAny_bind (wpAny_of_eq (a := (Value.ref it, [])) rfl ?_)
  try dsimp only
  refine wpAny_bind (wpAny_field ho hd (x := .ref t) rfl ?_)
  refine wpAny_bind (wpAny_field ho hd (x := rawInt (i : Int)) rfl ?_)
  show wpAny _ _ (if (i : Int) < 0 then _ else _) _ _ s
  rw [if_neg (by omega)]
  refine wpAny_bind (wpAny_specialOf hl.typeIs F.slot_tuple_getitem.lookup ?_)
  rw [if_neg (by decide)]
  refine wpAny_bind (wpAny_mkInt ?_)
  refine wpAny_bind (wpAny_attempt (getItem_tuple (k := i) hl (by omega) (by omega) ?_ hx ?_))
  · simp [seqIndex?]
    omega
  refine wpAny_bind (wpAny_field ho hd (x := rawInt (i : Int)) rfl ?_)
  show wpAny _ _ (setField (.ref it) 1 (rawInt ((i : Int) - 1)) >>= fun _ => ret x) _ _ _
  refine wpAny_bind (wpAny_setField ho hd (by simp) ?_)
  refine wpAny_pure ⟨x, rfl, wpAny_pure (hQ _ _ (by show s.toks ≤ s.toks + 1; omega) ?_ (Heap.SameBut.update ..))⟩
  exact ⟨_, Heap.get?_update_self _ ho (Obj.isFreed_of_fields (Obj.data_mapFields hd _)), (Obj.cls_mapFields ..).trans hc, by
    rw [Obj.data_mapFields hd]; simp⟩
end
end L3

set_option Elab.async false
set_option linter.all false
set_option maxRecDepth 100000
set_option maxHeartbeats 4000000
namespace L3
open PySem PySem.Spec PyProof.Rows L2
section
variable {prog : Program} {w : World} {A : Around} {E : Value → Shared → Prop} {s : Shared}
theorem rv_end {it t : Addr} {Q : Option Value → Shared → Prop} (hh : A.handled = none) (hit : RvAt s.heap it t (-1))
    (hQ : ∀ h', Heap.ExtBut it s.heap h' → Q none { s with heap := h' }) : wpAny (model prog w) A (pyNext (.ref it)) Q E s := by
  obtain ⟨o, ho, hc, hd⟩ := id hit
  unfold pyNext
  refine wpAny_bind (wpAny_attempt (wpAny_callSpecial?_slot (name := Str.ofString "__next__") hit.ty rv_next
    (wpAny_call_entry rv_next hit.ty rv_next_e ?_ (rv_next_a _))))
  unfold Builtin.«reversed.__next__»
  refine wpAny_bind (wpAny_of_eq (a := (Value.ref it, [])) rfl ?_)
  try dsimp only
  refine wpAny_bind (wpAny_field ho hd (x := .ref t) rfl ?_)
  refine wpAny_bind (wpAny_field ho hd (x := rawInt (-1)) rfl ?_)
  show wpAny _ _ (if (-1 : Int) < 0 then _ else _) _ _ s
  rw [if_pos (by decide)]
  refine wpAny_bind (wpAny_rule ?_)
  refine wpAny_bind ?_
  show wpAny _ _ (setField (.ref it) 1 (rawInt (-1)) >>= fun _ => setField (.ref it) 0 .none) _ _ s
  refine wpAny_bind (wpAny_setField ho hd (by simp) ?_)
  have hf := Obj.isFreed_of_fields (Obj.data_mapFields hd fun vs => vs.setIfInBounds 1 (rawInt (-1)))
  have ho2 := Heap.get?_update_self (Obj.mapFields fun vs => vs.setIfInBounds 1 (rawInt (-1))) ho hf
  refine wpAny_setField ho2 (Obj.data_mapFields hd _) (by simp) ?_
  refine wpAny_bind ?_
  show wpAny _ _ (newExc (.type "StopIteration") [] >>= _) _ _ _
  refine wpAny_bind ?_
  simp only [newExc, newTuple]
  refine wpAny_bind (wpAny_newObj_type ?_ (by size_fits))
  refine wpAny_bind (m := firstArgMember _ _) (wpAny_of_eq (a := Value.none) (by first | rfl | (simp only [firstArgMember]; rfl)) ?_)
  refine wpAny_newObj_type ?_ (by size_fits)
  simp only [raiseNew]
  refine wpAny_bind (wpAny_handled ?_)
  first | rw [show A.in1.handled = none from hh] | rw [hh]
  refine wpAny_bind (wpAny_pure (wpAny_throw ?_))
  refine wpAny_bind (wpAny_isInstance (T := "StopIteration") (b := true) ⟨_, Heap.get?_push_size _ rfl, rfl⟩ isSubtype_stop ?_)
  refine wpAny_pure (hQ _ fun b o' hb e => ?_)
  refine Heap.get?_push_of_some _ (Heap.get?_push_of_some _ ?_)
  exact (Heap.get?_update_other _ _ (Ne.symm hb)).trans ((Heap.get?_update_other _ _ (Ne.symm hb)).trans e)
theorem rv_self {it t : Addr} {i : Int} {Q : Value → Shared → Prop} (hit : RvAt s.heap it t i) (h : Q (.ref it) s) : wpAny (model prog w) A (pyIter (.ref it)) Q E s := by
  refine wpAny_pyIter_slot hit.ty rv_iter (wpAny_call_entry rv_iter hit.ty rv_iter_e ?_ (rv_iter_a _))
  show wpAny _ _ (ret (.ref it)) _ _ s
  exact wpAny_pure ⟨_, rfl, "reversed", _, hit.ty, rv_next.lookup, h⟩
end
theorem rv_walks {prog : Program} {w : World} {A : Around} (hh : A.handled = none) (I t : Addr) (hne : t ≠ I) (items : Array Value) (hsz : items.size ≤ sizeLine) :
    Walks prog w A I [I, t] [I] items.size (fun i v => items[items.size - 1 - i]? = some v) (fun i h => i ≤ items.size ∧ RvAt h I t ((items.size : Int) - 1 - (i : Int)) ∧ h.IsTuple t items) where
  sub := fun b hb => by rw [List.mem_singleton.mp hb]; exact List.mem_cons_self
  frame := fun _ _ _ x hk => by
    obtain ⟨o, ho, r⟩ := x.2.1
    exact ⟨x.1, ⟨o, hk I (by simp) o ho, r⟩, x.2.2.at fun o e => hk t (by simp) o e⟩
  item := fun i s Q E hi x hQ => by
    have e : (items.size : Int) - 1 - (i : Int) = ((items.size - 1 - i : Nat) : Int) := by omega
    have hit := x.2.1
    rw [e] at hit
    have hx : items[items.size - 1 - i]? = some (items[items.size - 1 - i]'(by omega)) := Array.getElem?_eq_getElem (by omega)
    refine rv_item hit x.2.2 hsz hx fun h' tk htk hit' hs' => ?_
    have e2 : ((items.size - 1 - i : Nat) : Int) - 1 = (items.size : Int) - 1 - ((i + 1 : Nat) : Int) := by omega
    rw [e2] at hit'
    exact hQ _ h' tk hx ⟨hi, hit', x.2.2.at fun o eo => (hs'.2 t hne).trans eo⟩ fun b o hb eo => hs'.extBut b o (fun h => hb (by simp [h])) eo
  done := fun s Q E x hQ => by
    have e : (items.size : Int) - 1 - (items.size : Int) = -1 := by omega
    have hit := x.2.1
    rw [e] at hit
    exact rv_end hh hit fun h' he' => hQ h' s.toks fun b o hb eo => he' b o (fun h => hb (by simp [h])) eo
  self := fun _ _ _ _ x hQ => rv_self x.2.1 hQ
end L3

set_option Elab.async false
set_option linter.all false
set_option maxRecDepth 100000
set_option maxHeartbeats 4000000
namespace L3
open PySem PySem.Spec PyProof.Rows L2
section
variable {prog : Program} {w : World} {A : Around} {E : Value → Shared → Prop} {s : Shared}
theorem rv_len {it t : Addr} {items : Array Value} {Q : Value → Shared → Prop} (hit : RvAt s.heap it t ((items.size : Int) - 1)) (hl : s.heap.IsTuple t items) (hsz : items.size ≤ sizeLine)
    (hQ : ∀ u tk, s.toks ≤ tk → Q (.int (items.size : Int) u) { s with toks := tk }) : wpAny (model prog w) A (call (.builtin "reversed.__length_hint__") [.ref it]) Q E s := by
  obtain ⟨o, ho, hc, hd⟩ := id hit
  have := line63
  refine wpAny_call_entry rv_hint hit.ty rv_hint_e ?_ (rv_hint_a _)
  unfold Builtin.«reversed.__length_hint__»
  refine wpAny_bind (wpAny_of_eq (a := Value.ref it) rfl ?_)
  refine wpAny_bind (wpAny_field ho hd (x := .ref t) rfl ?_)
  rw [if_neg (show ¬ (Value.ref t == Value.none) = true from Bool.false_ne_true)]
  refine wpAny_bind (len_tuple hl (by omega) ?_)
  refine wpAny_bind (wpAny_of_eq (a := some (items.size : Int)) rfl ?_)
  dsimp only
  refine wpAny_bind (wpAny_field ho hd (x := rawInt ((items.size : Int) - 1)) rfl ?_)
  show wpAny _ _ (if (items.size : Int) < (items.size : Int) - 1 + 1 then _ else _) _ _ _
  rw [if_neg (by omega)]
  show wpAny _ _ (mkInt ((items.size : Int) - 1 + 1) >>= fun v => ret v) _ _ _
  refine wpAny_bind (wpAny_mkInt (wpAny_pure ⟨_, rfl, ?_⟩))
  rw [show (items.size : Int) - 1 + 1 = items.size from by omega]
  exact hQ _ _ (by show s.toks ≤ s.toks + 1 + 1 + 1; omega)
end
def empL : Obj := { cls := .type "list", data := .seq ([] : List Value).toArray }
section
variable {prog : Program} {w : World} {A : Around} {E : Value → Shared → Prop} {s : Shared}
theorem rv_collect {I t : Addr} {items : Array Value} {Q : List Value → Shared → Prop} (hh : A.handled = none) (hne : t ≠ I) (hsz : items.size ≤ sizeLine) (hit : RvAt s.heap I t ((items.size : Int) - 1)) (hl : s.heap.IsTuple t items)
    (hQ : ∀ s' acc, Moved [I] (fun a b => b = a) s s' → ItemsOf (fun i v => items[items.size - 1 - i]? = some v) acc items.size → Q acc.toList s') : wpAny (model prog w) A (collect (.ref I)) Q E s := by
  have W := (rv_walks (prog := prog) (w := w) (A := A.in1) hh I t hne items hsz).toS
  have hIl : I < s.heap.objs.size := by obtain ⟨o, ho, _⟩ := hit; exact Heap.lt_size ho
  have htl : t < s.heap.objs.size := by obtain ⟨o, ho, _⟩ := hl; exact Heap.lt_size ho
  have hSf : s.heap.objs.size ∉ [I, t] := fun hm => by
    rcases List.mem_cons.mp hm with e | e
    · rw [← e] at hIl; exact Nat.lt_irrefl _ hIl
    · rw [← List.mem_singleton.mp e] at htl; exact Nat.lt_irrefl _ htl
  have hSI : s.heap.objs.size ≠ I := fun e => by rw [← e] at hIl; exact Nat.lt_irrefl _ hIl
  have st : (fun (i : Nat) (s : Shared) => i ≤ items.size ∧ RvAt s.heap I t ((items.size : Int) - 1 - (i : Int)) ∧ s.heap.IsTuple t items) 0 s := ⟨Nat.zero_le _, by simpa using hit, hl⟩
  unfold collect
  refine wpAny_bind (wpAny_runValue (codeAny_builtin F.entry_proto_collect ?_))
  rw [Around.under_plainId F.plain_proto_collect _]
  show wpAny _ A.in1 (newList [] >>= fun z => again (.builtin "list.__iadd__" ⟨[z, .ref I], []⟩)) _ _ s
  refine wpAny_bind (wpAny_newObj_type ?_)
  refine wpAny_pure ⟨plainId_quiet F.plain_list_iadd _, codeAny_builtin F.entry_list_iadd ?_⟩
  rw [Around.under_plainId F.plain_list_iadd _]
  have st1 := W.frame 0 s (s.heap.push empL) s.toks st (Nat.le_refl _) fun b _ o e => Heap.get?_push_of_some _ e
  have hE : (s.heap.push empL).get? s.heap.objs.size = some empL := Heap.get?_push_size _ rfl
  show wpAny _ A.in1 (Builtin.List.listExtendWith (.ref s.heap.objs.size) (.ref I) (.ref s.heap.objs.size)) _ _ { s with heap := s.heap.push empL }
  unfold Builtin.List.listExtendWith
  have hty : ({ s with heap := s.heap.push empL } : Shared).TypeIs (.ref I) "reversed" := RvAt.ty st1.2.1
  refine wpAny_bind (wpAny_typeOf hty ?_)
  have n1 : Builtin.List.listSameRef (.ref s.heap.objs.size) (.ref I) = false := by simp [Builtin.List.listSameRef, hSI]
  have n2 : (Value.type "reversed" == Value.type "list") = false := by decide
  have n3 : (Value.type "reversed" == Value.type "tuple") = false := by decide
  simp only [n1, n2, n3, Bool.or_false, Bool.false_eq_true, if_false]
  refine wpAny_bind (rv_self st1.2.1 ?_)
  refine wpAny_bind (wpAny_holding ?_)
  unfold Builtin.List.listLengthHint
  refine wpAny_bind (wpAny_specialOf hty rv_nolen ?_)
  show wpAny _ A.in1 (specialOf (Value.ref I) (Str.ofString "__length_hint__") >>= _) _ _ _
  refine wpAny_bind (wpAny_specialOf hty rv_hint.lookup ?_)
  generalize hid : ("reversed.__length_hint__" : String) = id0
  (fail_if_success (clear hid id0))
  wp_delta
  rw [show splitId id0 = some ("reversed", "__length_hint__") from by subst hid; decide +kernel]
  subst hid
  refine wpAny_bind (wpAny_isInstance (b := true) hty F.sub_reversed_self ?_)
  rw [if_neg (show ¬ (!true) = true from Bool.false_ne_true)]
  dsimp only
  rw [if_neg (by decide +kernel)]
  refine wpAny_bind (wpAny_rule ?_)
  refine wpAny_bind (wpAny_of_eq (rv_hint.bind _) ?_)
  dsimp only
  have hit1 : RvAt (s.heap.push empL) I t ((items.size : Int) - 1) := by have := st1.2.1; simpa using this
  refine wpAny_bind (wpAny_attempt (rv_len hit1 st1.2.2 hsz fun u tk htk => ?_))
  dsimp only
  have e0 : asInt? (Value.int (items.size : Int) u) = pure (some (items.size : Int)) := rfl
  rw [e0, pure_bind]
  dsimp only
  have f1 : Builtin.List.listFitsIndex (items.size : Int) = true := by
    have := line63
    unfold Builtin.List.listFitsIndex
    rw [Bool.and_eq_true, decide_eq_true_iff, decide_eq_true_iff]
    omega
  have f2 : Builtin.List.listTooLong (items.size : Int).toNat = false := by
    unfold Builtin.List.listTooLong
    rw [decide_eq_false_iff_not, Int.toNat_natCast]
    omega
  rw [f1, f2, if_neg (show ¬ (!true) = true from Bool.false_ne_true), if_neg (show ¬ ((items.size : Int) < 0) from by omega), if_neg Bool.false_ne_true]
  refine wpAny_pure ?_
  have st2 := W.frame 0 _ (s.heap.push empL) tk st1 htk fun b _ o e => e
  have fin : ∀ (h2 : Heap), (∀ b o, b ≠ s.heap.objs.size → (s.heap.push empL).get? b = some o → h2.get? b = some o) → (∃ c, h2.get? s.heap.objs.size = some { cls := .type "list", dict := none, data := .seq #[] c, slots := #[] }) →
      codeAny (model prog w) A (.builtin "list.extend.loop" ⟨[.ref s.heap.objs.size, .ref I, .ref s.heap.objs.size], []⟩) (fun r s' => r = .ok (.ret (.ref s.heap.objs.size)) ∧ ∃ acc c, Moved [I] (fun a b => b = a) s s' ∧ s'.heap.get? s.heap.objs.size = some { cls := .type "list", dict := none, data := .seq acc c, slots := #[] } ∧ ItemsOf (fun i v => items[items.size - 1 - i]? = some v) acc items.size) { s with heap := h2, toks := tk } := fun h2 k1 ⟨c, k2⟩ => by
    refine codeAny_extend_loopS W hsz _ hSf _ items.size 0 _ _ _ rfl (Nat.zero_le _) (W.frame 0 ({ s with heap := s.heap.push empL, toks := tk } : Shared) h2 tk st2 (Nat.le_refl _) fun b hb o e => k1 b o (fun z => hSf (z ▸ hb)) e) k2 (ItemsOf.nil _) fun s' acc' c' hm hS' hacc => ⟨rfl, acc', c', ?_, hS', hacc⟩
    refine Moved.drop_new (o := empL) (tk := tk) (Moved.trans W.gtrans ((Moved.refl (G := fun a b => b = a) fun _ => rfl).then_heap (s' := { s with heap := s.heap.push empL, toks := tk }) (Nat.le_refl _) fun b o hb e => ?_) hm) htk
    exact k1 b o (fun z => hb (z ▸ List.mem_cons_self)) e
  clear f1 f2
  split
  · refine wpAny_bind (wpAny_rule ?_)
    refine wpAny_bind ?_
    show wpAny _ A.in1 (updateSeq s.heap.objs.size (·.push .none) >>= fun _ => updateSeq s.heap.objs.size (·.pop)) _ _ _
    refine wpAny_bind (wpAny_updateSeq hE rfl ?_)
    have hE2 := Heap.get?_update_self (Obj.mapSeq (·.push Value.none)) hE rfl
    refine wpAny_updateSeq hE2 rfl ?_
    have hE3 := Heap.get?_update_self (Obj.mapSeq (·.pop)) hE2 rfl
    refine wpAny_pure ⟨plainId_quiet F.plain_extend_loop _, codeAny_mono (fin _ (fun b o hb e => (Heap.get?_update_other _ _ (Ne.symm hb)).trans ((Heap.get?_update_other _ _ (Ne.symm hb)).trans e)) ⟨_, hE3⟩) ?_⟩
    rintro r s' ⟨rfl, acc, c, hm, hS', hacc⟩
    show wpAny _ A (load s.heap.objs.size >>= _) _ _ s'
    exact wpAny_bind (wpAny_load hS' (wpAny_pure (hQ s' acc hm hacc)))
  · refine wpAny_pure ⟨plainId_quiet F.plain_extend_loop _, codeAny_mono (fin _ (fun b o hb e => e) ⟨_, hE⟩) ?_⟩
    rintro r s' ⟨rfl, acc, c, hm, hS', hacc⟩
    show wpAny _ A (load s.heap.objs.size >>= _) _ _ s'
    exact wpAny_bind (wpAny_load hS' (wpAny_pure (hQ s' acc hm hacc)))
end
theorem rv_items {items acc : Array Value} (h : ItemsOf (fun i v => items[items.size - 1 - i]? = some v) acc items.size) : acc = items.reverse := by
  refine Array.ext (by rw [h.1]; simp) fun j h1 h2 => ?_
  have q : items[items.size - 1 - j]? = some acc[j] := h.2 j acc[j] (Array.getElem?_eq_getElem h1)
  have hj : j < items.size := by rw [← h.1]; exact h1
  rw [Array.getElem?_eq_getElem (by omega)] at q
  rw [Array.getElem_reverse]
  exact (Option.some.inj q).symm
theorem meets_tup_rev (I t : Addr) (items : Array Value) (hsz : items.size ≤ sizeLine) (hne : t ≠ I) :
    Meets (Builtin.«tuple.__new__» ⟨[.type "tuple", .ref I], []⟩)
      (fun A R s => A.handled = none ∧ RvAt s.heap I t ((items.size : Int) - 1) ∧ s.heap.IsTuple t items ∧ ∀ s', Moved [I] (fun a b => b = a) s s' → R (.ok (.ret (.ref s'.heap.objs.size))) { s' with heap := s'.heap.push { cls := .type "tuple", data := .seq items.reverse } }) :=
  .of_wp fun prog w A R s h => by
    obtain ⟨hp, g, d, tk, os⟩ := s
    obtain ⟨hh, hr, hl, h⟩ := h
    have hsub := sub_tuple_self
    have hinit := init_tuple_lookup
    have hmh := madeHere_tuple
    have hT : Shared.TypeIs ⟨hp, g, d, tk, os⟩ (.ref I) "reversed" := RvAt.ty hr
    have ho := hr
    obtain ⟨o, ho, hc, hd⟩ := ho
    wp_walk using AutoSeq1.wpAny_loadPart' ho, wpAny_typeOf hT, rv_collect (A := A.in1) hh hne hsz hr hl
    intro s' acc hm hacc
    rw [rv_items hacc]
    show wpAny _ _ (Builtin.Tuple.tupleExact items.reverse.toList.toArray >>= fun v => ret v) _ _ _
    unfold Builtin.Tuple.tupleExact
    refine wpAny_bind (wpAny_newObj_type ?_ (by show items.reverse.toList.toArray.size ≤ sizeLine; simpa using hsz))
    refine wpAny_pure ⟨_, rfl, ?_⟩
    rw [show items.reverse.toList.toArray = items.reverse from Array.toArray_toList]
    exact h s' hm
section
variable {prog : Program} {w : World} {A : Around} {E : Value → Shared → Prop} {s : Shared}
theorem call_tup_rev {I t : Addr} {items : Array Value} {Q : Value → Shared → Prop} (hh : A.handled = none) (hne : t ≠ I) (hsz : items.size ≤ sizeLine) (hr : RvAt s.heap I t ((items.size : Int) - 1)) (hl : s.heap.IsTuple t items)
    (h : ∀ s', Moved [I] (fun a b => b = a) s s' → Q (.ref s'.heap.objs.size) { s' with heap := s'.heap.push { cls := .type "tuple", data := .seq items.reverse } }) :
    wpAny (model prog w) A (call (.type "tuple") [.ref I]) Q E s :=
  callType_new F.called_tuple (by decide) (F.typeCall_tuple_1 _) (F.newCall_tuple_1 _) (fun obj => F.args_object_init_2 obj _) F.entry_tuple_new
    (meets_tup_rev I t items hsz hne) ⟨hh, hr, hl, fun s' hm => ⟨⟨_, Heap.get?_push_size _ rfl, rfl⟩, h s' hm⟩⟩
end

/-! ### tuple(reversed(a tuple)) -/
section
variable {X : Cx} {e : Expr} {te : TE} {p1 p2 pos pos' : Pos}
def tTupRev (te : TE) : TE := fun σ H Q => te σ H fun x H1 => ∃ p ys, x = .ref p ∧ SqT X.K H1 p ys ∧ ∀ l, H1 l = none → Q (.ref l) (upd H1 l (.tup ys.reverse))
theorem pe_tupRev (hc : X.calm = true) (hgt : Gl X "tuple") (hmt : X.mg "tuple" = none) (hgr : Gl X "reversed") (hmr : X.mg "reversed" = none) (hvt : bootBuiltins "tuple" = some (.type "tuple")) (hvr : bootBuiltins "reversed" = some (.type "reversed")) (ha : PE X e te)
    (he : starEach [e] X.env = (false, eval e X.env) :: starEach [] X.env := by rfl) (hpl : (backTo pos (starEach [] X.env)).any (·.1) = false := by rfl) (hpl' : (backTo pos' (starEach [] X.env)).any (·.1) = false := by rfl) :
    PE X (.Call (.Name "tuple" p1) [.Call (.Name "reversed" p2) [e] [] pos'] [] pos) (tTupRev (X := X) te) := by
  intro pins s σ H Q I h
  refine wpAny_Call_Name_kw (ld_blt I hgt hmt hvt ?_ (by decide) (by decide))
  refine PyProof.Rows.callWith_type1 ?_ rfl hpl
  show wpAny _ _ (spliced ((false, eval (.Call (.Name "reversed" p2) [e] [] pos') X.env) :: backTo pos (starEach [] X.env))) _ _ s
  refine Calls.spliced_cons ?_
  refine wpAny_Call_Name_kw (ld_blt I hgr hmr hvr ?_ (by decide) (by decide))
  refine PyProof.Rows.callWith_type1 ?_ he hpl'
  rw [he]
  show wpAny _ _ (spliced ((false, eval e X.env) :: backTo pos' (starEach [] X.env))) _ _ s
  refine Calls.spliced_cons (thn (ha pins s σ H _ I h) fun u s1 ⟨x, H1, I1, r1, p, ys, hx, sq, q⟩ => ?_)
  subst hx
  cases r1
  obtain ⟨its, rv, hl, hz⟩ := I1.tuple sq
  have hlen := rv.length
  have hsz : its.toArray.size ≤ sizeLine := by simp only [List.size_toArray]; omega
  refine Calls.spliced_nil ?_
  refine call_rev_tup hl hsz fun tk htk => ?_
  refine Calls.spliced_nil ?_
  have hpI : p ≠ s1.heap.objs.size := fun z => by
    obtain ⟨o, eo, _⟩ := hl
    have := Heap.lt_size eo
    rw [z] at this
    exact Nat.lt_irrefl _ this
  refine call_tup_rev (I1.ok.hd hc) hpI hsz ⟨_, Heap.get?_push_size _ rfl, rfl, rfl⟩ (let ⟨o, eo, r⟩ := hl; ⟨o, Heap.get?_push_of_some _ eo, r⟩) fun s' hm => ?_
  have kp : ∀ b u, s1.heap.get? b = some u → s'.heap.get? b = some u := fun b u eb => hm.heap b u (fun z => by
    have := Heap.lt_size eb
    rw [List.mem_singleton.mp z] at this
    exact Nat.lt_irrefl _ this) (Heap.get?_push_of_some _ eb)
  have e1 : s' = { s1 with heap := s'.heap, toks := s'.toks } := by
    obtain ⟨a1, a2, a3, a4, a5⟩ := s'
    have := hm.gens; have := hm.drawn; have := hm.os
    simp_all
  have I2 : Inv X pins σ H1 { s1 with heap := s'.heap, toks := s'.toks } := I1.kept kp
  have I3 : Inv X pins σ (upd H1 s'.heap.objs.size (.tup ys.reverse)) { s1 with heap := s'.heap.push { cls := .type "tuple", data := .seq its.toArray.reverse }, toks := s'.toks } :=
    I2.laid (t' := s'.toks) (fun b o e => Heap.get?_push_of_some _ e) (Nat.le_refl _) (show ObjOk X.prog X.w _ _ _ (.tup ys.reverse) from ⟨by simpa using hz, its.reverse, rv.reverse, by simpa using IsTup.new _ _⟩)
  rw [e1]
  exact ⟨.ref s'.heap.objs.size, _, I3, rfl, q _ (I2.hok.fresh (Nat.le_refl _))⟩
def tTupRev3 (te : TE3) : TE3 := fun σ H Q => te σ H fun x H1 => match x with
  | .tup xs => Q (.tup xs.reverse) H1
  | _ => False
theorem e3_tupRev {te : TE3} (hc : X.calm = true) (hgt : Gl X "tuple") (hmt : X.mg "tuple" = none) (hgr : Gl X "reversed") (hmr : X.mg "reversed" = none) (ha : PE3 X e te)
    (he : starEach [e] X.env = (false, eval e X.env) :: starEach [] X.env := by rfl) (hpl : (backTo pos (starEach [] X.env)).any (·.1) = false := by rfl) (hpl' : (backTo pos' (starEach [] X.env)).any (·.1) = false := by rfl) :
    PE3 X (.Call (.Name "tuple" p1) [.Call (.Name "reversed" p2) [e] [] pos'] [] pos) (tTupRev3 te) := by
  refine PE.imp (pe_tupRev hc hgt hmt hgr hmr bt_tuple (by decide +kernel) ha he hpl hpl') ?_
  rintro σ H Q ⟨σ3, H3, Q3, ss, sh, h, k⟩
  refine ⟨σ3, H3, _, ss, sh, h, fun v H' t H3' le sh' r q => ?_⟩
  cases t with
  | tup ts =>
    obtain ⟨a, ys, rfl, sq, rs⟩ := r.tup
    exact ⟨a, ys, rfl, sq, fun l hl => k _ _ _ _ (le.trans (upd_tupLe hl)) (sh'.new hl) (SimH.newTup (H3 := H3') hl rs.reverse) q⟩
  | _ => exact q.elim
theorem q_tupRev (te : TE3) {σ : St3} {H : Hp3} {Q : VK3} : tTupRev3 te σ H Q = te σ H fun x H1 => match x with
  | .tup xs => Q (.tup xs.reverse) H1
  | _ => False := rfl
end
end L3

set_option Elab.async false
set_option linter.all false
set_option maxRecDepth 100000
set_option maxHeartbeats 4000000
namespace L3
open PySem PySem.Spec PyProof.Rows L2
section
variable {prog : Program} {w : World} {A : Around} {E : Value → Shared → Prop} {s : Shared}
theorem tn_item {it t : Addr} {i : Nat} {items : Array Value} {x : Value} {Q : Value → Shared → Prop} (hit : s.heap.IsTupleIter it t i) (ht : s.heap.IsTuple t items) (hx : items[i]? = some x)
    (hQ : ∀ h', h'.IsTupleIter it t (i + 1) → Heap.SameBut it s.heap h' → Q x { s with heap := h' }) : wpAny (model prog w) A (Builtin.SmallTypes.nextOf (.ref it)) Q E s := by
  obtain ⟨o, ho, hc, hd⟩ := id hit
  obtain ⟨ol, hol, _, nl, hdl⟩ := ht
  unfold Builtin.SmallTypes.nextOf
  refine wpAny_bind (wpAny_callSpecial?_slot (name := Str.ofString "__next__") hit.typeIs F.slot_tuple_iterator_next
    (wpAny_call_entry F.slot_tuple_iterator_next hit.typeIs F.entry_tuple_iterator_next ?_ (F.args_tuple_iterator_next_1 _)))
  show wpAny _ _ (field (.ref it) 0 >>= _) _ _ s
  refine wpAny_bind (wpAny_field ho hd (x := .ref t) rfl ?_)
  show wpAny _ _ (if (Value.ref t == Value.none) = true then _ else _) _ _ s
  rw [if_neg (show ¬ ((Value.ref t == Value.none) = true) from Bool.false_ne_true)]
  show wpAny _ _ (field (.ref it) 1 >>= _) _ _ s
  refine wpAny_bind (wpAny_field ho hd (x := .int i 0) rfl ?_)
  show wpAny _ _ (seqItems? (.ref t) >>= _) _ _ s
  refine wpAny_bind (wpAny_seqItems hol hdl ?_)
  simp only [Int.toNat_natCast, hx]
  refine wpAny_bind (wpAny_setField ho hd (by simp) (wpAny_pure ⟨x, rfl, wpAny_pure (hQ _ ?_ (Heap.SameBut.update ..))⟩))
  refine ⟨_, Heap.get?_update_self _ ho (Obj.isFreed_of_fields (Obj.data_mapFields hd _)), (Obj.cls_mapFields ..).trans hc, ?_⟩
  rw [Obj.data_mapFields hd]
  simp [rawInt]
theorem tn_end {it t : Addr} {i : Nat} {items : Array Value} {Q : Value → Shared → Prop} (hh : A.handled = none) (hit : s.heap.IsTupleIter it t i) (ht : s.heap.IsTuple t items) (hx : items[i]? = none)
    (hE : ∀ h' e, Heap.ExtBut it s.heap h' → (∃ o, h'.get? e = some o ∧ o.cls = .type "StopIteration") → E (.ref e) { s with heap := h' }) : wpAny (model prog w) A (Builtin.SmallTypes.nextOf (.ref it)) Q E s := by
  obtain ⟨o, ho, hc, hd⟩ := id hit
  obtain ⟨ol, hol, _, nl, hdl⟩ := ht
  unfold Builtin.SmallTypes.nextOf
  refine wpAny_bind (wpAny_callSpecial?_slot (name := Str.ofString "__next__") hit.typeIs F.slot_tuple_iterator_next
    (wpAny_call_entry F.slot_tuple_iterator_next hit.typeIs F.entry_tuple_iterator_next ?_ (F.args_tuple_iterator_next_1 _)))
  show wpAny _ _ (field (.ref it) 0 >>= _) _ _ s
  refine wpAny_bind (wpAny_field ho hd (x := .ref t) rfl ?_)
  show wpAny _ _ (if (Value.ref t == Value.none) = true then _ else _) _ _ s
  rw [if_neg (show ¬ ((Value.ref t == Value.none) = true) from Bool.false_ne_true)]
  show wpAny _ _ (field (.ref it) 1 >>= _) _ _ s
  refine wpAny_bind (wpAny_field ho hd (x := .int i 0) rfl ?_)
  show wpAny _ _ (seqItems? (.ref t) >>= _) _ _ s
  refine wpAny_bind (wpAny_seqItems hol hdl ?_)
  simp only [Int.toNat_natCast, hx]
  refine wpAny_bind (wpAny_rule (wpAny_bind (wpAny_setField ho hd (by simp) ?_)))
  show wpAny _ _ (newExc (.type "StopIteration") [] >>= _) _ _ _
  refine wpAny_bind ?_
  simp only [newExc, newTuple]
  refine wpAny_bind (wpAny_newObj_type ?_ (by size_fits))
  refine wpAny_bind (m := firstArgMember _ _) (wpAny_of_eq (a := Value.none) (by first | rfl | (simp only [firstArgMember]; rfl)) ?_)
  refine wpAny_newObj_type ?_ (by size_fits)
  simp only [raiseNew]
  refine wpAny_bind (wpAny_handled ?_)
  first | rw [show A.in1.handled = none from hh] | rw [hh]
  refine wpAny_bind (wpAny_pure (wpAny_throw ?_))
  exact hE _ _ (((Heap.SameBut.update ..).extBut.push _).push _) ⟨_, Heap.get?_push_size _ rfl, rfl⟩
end
theorem drawsT {prog : Program} {w : World} {A : Around} (hh : A.handled = none) (it t : Addr) (hne : t ≠ it) (items : Array Value) :
    Draws prog w A it [it, t] items.size (fun i v => items[i]? = some v) (fun i h => h.IsTupleIter it t i ∧ h.IsTuple t items) where
  live := fun _ _ st => let ⟨o, ho, _⟩ := st.1; ⟨o, ho⟩
  frame := fun _ _ _ st hk => ⟨st.1.at fun o e => hk it (by simp) o e, st.2.at fun o e => hk t (by simp) o e⟩
  item := fun i s Q E hi st hQ => by
    refine tn_item st.1 st.2 (x := items[i]) (by simp [hi]) fun h' hit' hs' => ?_
    exact hQ _ h' s.toks (by simp [hi]) ⟨hit', st.2.extBut hs'.extBut hne⟩ hs'
  done := fun s Q E st hE => tn_end hh st.1 st.2 (by simp) hE
/-- where the parts of a zip stand -/
structure ZAp (z ti to i1 i2 : Addr) (f1 f2 : List Addr) : Prop where
  ne : ti ≠ z ∧ to ≠ z ∧ ti ≠ to ∧ i1 ≠ i2
  m1 : i1 ∈ f1
  m2 : i2 ∈ f2
  n1 : z ∉ f1 ∧ ti ∉ f1 ∧ to ∉ f1 ∧ i2 ∉ f1
  n2 : z ∉ f2 ∧ ti ∉ f2 ∧ to ∉ f2 ∧ i1 ∉ f2
section
variable {z ti to i1 i2 : Addr} {f1 f2 : List Addr}
theorem ZAp.i1z (D : ZAp z ti to i1 i2 f1 f2) : i1 ≠ z := fun e => D.n1.1 (e ▸ D.m1)
theorem ZAp.i2z (D : ZAp z ti to i1 i2 f1 f2) : i2 ≠ z := fun e => D.n2.1 (e ▸ D.m2)
theorem ZAp.i1ti (D : ZAp z ti to i1 i2 f1 f2) : i1 ≠ ti := fun e => D.n1.2.1 (e ▸ D.m1)
theorem ZAp.i2ti (D : ZAp z ti to i1 i2 f1 f2) : i2 ≠ ti := fun e => D.n2.2.1 (e ▸ D.m2)
theorem ZAp.i1to (D : ZAp z ti to i1 i2 f1 f2) : i1 ≠ to := fun e => D.n1.2.2.1 (e ▸ D.m1)
theorem ZAp.i2to (D : ZAp z ti to i1 i2 f1 f2) : i2 ≠ to := fun e => D.n2.2.2.1 (e ▸ D.m2)
end
section
variable {prog : Program} {w : World} {A : Around} {E : Value → Shared → Prop} {s : Shared} {z ti to i1 i2 : Addr} {f1 f2 : List Addr} {n1 n2 k : Nat} {P1 P2 : Nat → Value → Prop} {S1 S2 : Nat → Heap → Prop}
theorem z_item {a b : Value} {Q : Value → Shared → Prop} (D1 : Draws prog w A i1 f1 n1 P1 S1) (D2 : Draws prog w A i2 f2 n2 P2 S2) (D : ZAp z ti to i1 i2 f1 f2)
    (hz : IsZip s.heap z ti to .none) (hI : IsPair s.heap ti (.ref i1) (.ref i2)) (hO : IsPair s.heap to a b) (h1 : S1 k s.heap) (h2 : S2 k s.heap) (k1 : k < n1) (k2 : k < n2)
    (hQ : ∀ x y h' tk, P1 k x → P2 k y → IsZip h' z ti to (rawInt s.heap.objs.size) → IsPair h' to x y → S1 (k + 1) h' → S2 (k + 1) h' → IsPair h' s.heap.objs.size x y → h'.objs.size = s.heap.objs.size + 1 →
      (∀ c o, c ∉ [z, to, i1, i2] → s.heap.get? c = some o → h'.get? c = some o) → Q (.ref s.heap.objs.size) { s with heap := h', toks := tk }) :
    wpAny (model prog w) A (Builtin.«zip.__next__» ⟨[.ref z], []⟩) (fun fin s' => ∃ v, fin = .done (.ret v) ∧ Q v s') E s := by
  show wpAny _ _ (field (.ref z) 2 >>= _) _ _ _
  refine wpAny_bind (wpAny_field hz rfl (x := .bool false) rfl ?_)
  show wpAny _ _ (field (.ref z) 3 >>= _) _ _ _
  refine wpAny_bind (wpAny_field hz rfl (x := .ref ti) rfl ?_)
  refine wpAny_bind (wpAny_seqItems hI rfl ?_)
  show wpAny _ _ (Builtin.SmallTypes.ownedTupleIsFree (.ref z) >>= _) _ _ _
  refine wpAny_bind ?_
  unfold Builtin.SmallTypes.ownedTupleIsFree
  refine wpAny_bind (wpAny_field hz rfl (x := .none) rfl (wpAny_pure ?_))
  simp only [if_true]
  refine wpAny_bind (wpAny_rule ?_)
  refine wpAny_bind (wpAny_field hz rfl (x := .ref to) rfl ?_)
  refine wpAny_bind (wpAny_setField_rec hz (by simp) fun ha hza hsa => ?_)
  replace hza : IsZip ha z ti to .ellipsis := hza
  refine wpAny_bind ?_
  simp only [List.zipIdx_cons, List.zipIdx_nil, List.forIn_cons, List.forIn_nil]
  refine wpAny_bind (wpAny_bind (wpAny_onRaise ?_))
  show wpAny _ _ (Builtin.SmallTypes.nextOf (.ref i1) >>= _) _ _ _
  have fr1 : ∀ {i : Nat} {h h' : Heap} {c : Addr}, S1 i h → Heap.SameBut c h h' → c ∉ f1 → S1 i h' := fun st sb nc => D1.frame _ _ _ st fun b hb o e => (sb.2 b fun q => nc (q ▸ hb)).trans e
  have fr2 : ∀ {i : Nat} {h h' : Heap} {c : Addr}, S2 i h → Heap.SameBut c h h' → c ∉ f2 → S2 i h' := fun st sb nc => D2.frame _ _ _ st fun b hb o e => (sb.2 b fun q => nc (q ▸ hb)).trans e
  refine wpAny_bind (D1.item k _ _ _ k1 (fr1 h1 hsa D.n1.1) fun x hb tb px sb1 hsb => wpAny_pure ?_)
  have hOb : IsPair hb to a b := (hsb.2 to (Ne.symm D.i1to)).trans ((hsa.2 to D.ne.2.1).trans hO)
  refine wpAny_bind (wpAny_seqItems hOb rfl ?_)
  refine wpAny_bind (wpAny_updateSeq_pair hOb fun hc hOc hsc => ?_)
  replace hOc : IsPair hc to x b := hOc
  refine wpAny_bind (wpAny_letGo (wpAny_pure ?_))
  refine wpAny_bind (wpAny_bind (wpAny_onRaise ?_))
  show wpAny _ _ (Builtin.SmallTypes.nextOf (.ref i2) >>= _) _ _ _
  have s2c : S2 k hc := fr2 (fr2 (fr2 h2 hsa D.n2.1) hsb D.n2.2.2.2) hsc D.n2.2.2.1
  refine wpAny_bind (D2.item k _ _ _ k2 s2c fun y hd td py sd2 hsd => wpAny_pure ?_)
  have hOd : IsPair hd to x b := (hsd.2 to (Ne.symm D.i2to)).trans hOc
  refine wpAny_bind (wpAny_seqItems hOd rfl ?_)
  refine wpAny_bind (wpAny_updateSeq_pair hOd fun he hOe hse => ?_)
  replace hOe : IsPair he to x y := hOe
  refine wpAny_bind (wpAny_letGo (wpAny_pure (wpAny_pure ?_)))
  refine wpAny_bind (wpAny_seqItems hOe rfl ?_)
  refine wpAny_bind (wpAny_newTuple ?_)
  have hsz : he.objs.size = s.heap.objs.size := by rw [hse.1, hsd.1, hsc.1, hsb.1, hsa.1]
  have hze : IsZip he z ti to .ellipsis := (hse.2 z (Ne.symm D.ne.2.1)).trans ((hsd.2 z (Ne.symm D.i2z)).trans ((hsc.2 z (Ne.symm D.ne.2.1)).trans ((hsb.2 z (Ne.symm D.i1z)).trans hza)))
  have hke : ∀ c o, c ∉ [z, to, i1, i2] → s.heap.get? c = some o → he.get? c = some o := fun c o hc e => by
    simp only [List.mem_cons, List.not_mem_nil, or_false, not_or] at hc
    exact (hse.2 c hc.2.1).trans ((hsd.2 c hc.2.2.2).trans ((hsc.2 c hc.2.1).trans ((hsb.2 c hc.2.2.1).trans ((hsa.2 c hc.1).trans e))))
  have s1e : S1 (k + 1) he := fr1 (fr1 (fr1 sb1 hsc D.n1.2.2.1) hsd D.n1.2.2.2) hse D.n1.2.2.1
  have s2e : S2 (k + 1) he := fr2 sd2 hse D.n2.2.2.1
  have hzl : z < he.objs.size := Heap.lt_size hze
  show wpAny _ _ (Builtin.SmallTypes.ownedTupleHandOut (.ref z) (.ref he.objs.size) >>= _) _ _ _
  refine wpAny_bind ?_
  unfold Builtin.SmallTypes.ownedTupleHandOut
  have hzf : IsZip (he.push { cls := .type "tuple", data := .seq #[x, y] }) z ti to .ellipsis := Heap.get?_push_of_some _ hze
  refine wpAny_bind (wpAny_setField_rec hzf (by simp) fun hg hzg hsg => ?_)
  replace hzg : IsZip hg z ti to (rawInt he.objs.size) := hzg
  refine wpAny_setField_rec hzg (by simp) fun hh hzh hsh => ?_
  replace hzh : IsZip hh z ti to (rawInt he.objs.size) := hzh
  have up : ∀ c o, c ≠ z → he.get? c = some o → hh.get? c = some o := fun c o c1 e => (hsh.2 c c1).trans ((hsg.2 c c1).trans (Heap.get?_push_of_some _ e))
  have hTh : IsPair hh he.objs.size x y := (hsh.2 _ (Nat.ne_of_gt hzl)).trans ((hsg.2 _ (Nat.ne_of_gt hzl)).trans (Heap.get?_push_size _ rfl))
  have hzz : hh.objs.size = he.objs.size + 1 := by rw [hsh.1, hsg.1, Heap.size_push]
  rw [hsz] at hzh hTh hzz
  refine wpAny_pure ⟨_, rfl, ?_⟩
  show Q (.ref he.objs.size) _
  rw [hsz]
  exact hQ x y hh _ px py hzh (up _ _ D.ne.2.1 hOe) (D1.frame _ _ _ s1e fun b hb o e => up b o (fun q => D.n1.1 (q ▸ hb)) e) (D2.frame _ _ _ s2e fun b hb o e => up b o (fun q => D.n2.1 (q ▸ hb)) e) hTh hzz fun c o hc e => up c o (fun q => hc (q ▸ List.mem_cons_self)) (hke c o hc e)
end
end L3

set_option Elab.async false
set_option linter.all false
set_option maxRecDepth 100000
set_option maxHeartbeats 4000000
namespace L3
open PySem PySem.Spec PyProof.Rows L2
section
variable {prog : Program} {w : World} {A : Around} {E : Value → Shared → Prop} {s : Shared} {z ti to i1 i2 : Addr} {f1 f2 : List Addr} {n1 n2 k : Nat} {P1 P2 : Nat → Value → Prop} {S1 S2 : Nat → Heap → Prop}
theorem z_end {a b : Value} {Q : Fin → Shared → Prop} (D1 : Draws prog w A i1 f1 n1 P1 S1) (D2 : Draws prog w A i2 f2 n2 P2 S2) (D : ZAp z ti to i1 i2 f1 f2)
    (hz : IsZip s.heap z ti to .none) (hI : IsPair s.heap ti (.ref i1) (.ref i2)) (hO : IsPair s.heap to a b) (h1 : S1 k s.heap) (h2 : S2 k s.heap) (hk : k = n1 ∨ (k < n1 ∧ k = n2))
    (hE : ∀ h' e tk, (∀ c o, c ∉ [z, to, i1, i2] → s.heap.get? c = some o → h'.get? c = some o) → (∃ o, h'.get? e = some o ∧ o.cls = .type "StopIteration") → E (.ref e) { s with heap := h', toks := tk }) :
    wpAny (model prog w) A (Builtin.«zip.__next__» ⟨[.ref z], []⟩) Q E s := by
  show wpAny _ _ (field (.ref z) 2 >>= _) _ _ _
  refine wpAny_bind (wpAny_field hz rfl (x := .bool false) rfl ?_)
  show wpAny _ _ (field (.ref z) 3 >>= _) _ _ _
  refine wpAny_bind (wpAny_field hz rfl (x := .ref ti) rfl ?_)
  refine wpAny_bind (wpAny_seqItems hI rfl ?_)
  show wpAny _ _ (Builtin.SmallTypes.ownedTupleIsFree (.ref z) >>= _) _ _ _
  refine wpAny_bind ?_
  unfold Builtin.SmallTypes.ownedTupleIsFree
  refine wpAny_bind (wpAny_field hz rfl (x := .none) rfl (wpAny_pure ?_))
  simp only [if_true]
  refine wpAny_bind (wpAny_rule ?_)
  refine wpAny_bind (wpAny_field hz rfl (x := .ref to) rfl ?_)
  refine wpAny_bind (wpAny_setField_rec hz (by simp) fun ha hza hsa => ?_)
  replace hza : IsZip ha z ti to .ellipsis := hza
  refine wpAny_bind ?_
  simp only [List.zipIdx_cons, List.zipIdx_nil, List.forIn_cons, List.forIn_nil]
  refine wpAny_bind (wpAny_bind (wpAny_onRaise ?_))
  show wpAny _ _ (Builtin.SmallTypes.nextOf (.ref i1) >>= _) _ _ _
  have fr1 : ∀ {i : Nat} {h h' : Heap} {c : Addr}, S1 i h → Heap.SameBut c h h' → c ∉ f1 → S1 i h' := fun st sb nc => D1.frame _ _ _ st fun b hb o e => (sb.2 b fun q => nc (q ▸ hb)).trans e
  have fr2 : ∀ {i : Nat} {h h' : Heap} {c : Addr}, S2 i h → Heap.SameBut c h h' → c ∉ f2 → S2 i h' := fun st sb nc => D2.frame _ _ _ st fun b hb o e => (sb.2 b fun q => nc (q ▸ hb)).trans e
  rcases hk with rfl | ⟨k1, rfl⟩
  · refine wpAny_bind (D1.done _ _ _ (fr1 h1 hsa D.n1.1) fun hb e hsb ⟨oe, hoe, hce⟩ => ?_)
    have hzb : IsZip hb z ti to .ellipsis := hsb z _ (Ne.symm D.i1z) hza
    have hez : e ≠ z := fun x => by subst x; rw [hzb] at hoe; cases hoe; simp at hce
    refine wpAny_setField_rec hzb (by simp) fun hc _ hsc => hE hc e _ (fun c o nc x => ?_) ⟨oe, (hsc.2 e hez).trans hoe, hce⟩
    simp only [List.mem_cons, List.not_mem_nil, or_false, not_or] at nc
    exact (hsc.2 c nc.1).trans (hsb c _ nc.2.2.1 ((hsa.2 c nc.1).trans x))
  · refine wpAny_bind (D1.item k _ _ _ k1 (fr1 h1 hsa D.n1.1) fun x hb tb px sb1 hsb => wpAny_pure ?_)
    have hOb : IsPair hb to a b := (hsb.2 to (Ne.symm D.i1to)).trans ((hsa.2 to D.ne.2.1).trans hO)
    refine wpAny_bind (wpAny_seqItems hOb rfl ?_)
    refine wpAny_bind (wpAny_updateSeq_pair hOb fun hc hOc hsc => ?_)
    refine wpAny_bind (wpAny_letGo (wpAny_pure ?_))
    refine wpAny_bind (wpAny_bind (wpAny_onRaise ?_))
    show wpAny _ _ (Builtin.SmallTypes.nextOf (.ref i2) >>= _) _ _ _
    have s2c : S2 k hc := fr2 (fr2 (fr2 h2 hsa D.n2.1) hsb D.n2.2.2.2) hsc D.n2.2.2.1
    refine wpAny_bind (D2.done _ _ _ s2c fun hd e hsd ⟨oe, hoe, hce⟩ => ?_)
    have hzd : IsZip hd z ti to .ellipsis := hsd z _ (Ne.symm D.i2z) ((hsc.2 z (Ne.symm D.ne.2.1)).trans ((hsb.2 z (Ne.symm D.i1z)).trans hza))
    have hez : e ≠ z := fun x => by subst x; rw [hzd] at hoe; cases hoe; simp at hce
    refine wpAny_setField_rec hzd (by simp) fun he _ hse => hE he e _ (fun c o nc x => ?_) ⟨oe, (hse.2 e hez).trans hoe, hce⟩
    simp only [List.mem_cons, List.not_mem_nil, or_false, not_or] at nc
    exact (hse.2 c nc.1).trans (hsd c _ nc.2.2.2 ((hsc.2 c nc.2.1).trans ((hsb.2 c nc.2.2.1).trans ((hsa.2 c nc.1).trans x))))
theorem zn_item {a b : Value} {Q : Option Value → Shared → Prop} (D1 : Draws prog w A.in1 i1 f1 n1 P1 S1) (D2 : Draws prog w A.in1 i2 f2 n2 P2 S2) (D : ZAp z ti to i1 i2 f1 f2)
    (hz : IsZip s.heap z ti to .none) (hI : IsPair s.heap ti (.ref i1) (.ref i2)) (hO : IsPair s.heap to a b) (h1 : S1 k s.heap) (h2 : S2 k s.heap) (k1 : k < n1) (k2 : k < n2)
    (hQ : ∀ x y h' tk, P1 k x → P2 k y → IsZip h' z ti to (rawInt s.heap.objs.size) → IsPair h' to x y → S1 (k + 1) h' → S2 (k + 1) h' → IsPair h' s.heap.objs.size x y → h'.objs.size = s.heap.objs.size + 1 →
      (∀ c o, c ∉ [z, to, i1, i2] → s.heap.get? c = some o → h'.get? c = some o) → Q (some (.ref s.heap.objs.size)) { s with heap := h', toks := tk }) : wpAny (model prog w) A (pyNext (.ref z)) Q E s := by
  have hT : s.TypeIs (.ref z) "zip" := ⟨_, hz, rfl⟩
  unfold pyNext
  exact wpAny_bind (wpAny_attempt (wpAny_callSpecial?_slot (name := Str.ofString "__next__") hT F.slot_zip_next
    (wpAny_call_entry F.slot_zip_next hT F.entry_zip_next (z_item D1 D2 D hz hI hO h1 h2 k1 k2 fun x y h' tk a1 a2 a3 a4 a5 a6 a7 a8 a9 => wpAny_pure (hQ x y h' tk a1 a2 a3 a4 a5 a6 a7 a8 a9)) (F.args_zip_next_1 _))))
theorem zn_end {a b : Value} {Q : Option Value → Shared → Prop} (D1 : Draws prog w A.in1 i1 f1 n1 P1 S1) (D2 : Draws prog w A.in1 i2 f2 n2 P2 S2) (D : ZAp z ti to i1 i2 f1 f2)
    (hz : IsZip s.heap z ti to .none) (hI : IsPair s.heap ti (.ref i1) (.ref i2)) (hO : IsPair s.heap to a b) (h1 : S1 k s.heap) (h2 : S2 k s.heap) (hk : k = n1 ∨ (k < n1 ∧ k = n2))
    (hQ : ∀ h' tk, (∀ c o, c ∉ [z, to, i1, i2] → s.heap.get? c = some o → h'.get? c = some o) → Q none { s with heap := h', toks := tk }) : wpAny (model prog w) A (pyNext (.ref z)) Q E s := by
  have hT : s.TypeIs (.ref z) "zip" := ⟨_, hz, rfl⟩
  unfold pyNext
  refine wpAny_bind (wpAny_attempt (wpAny_callSpecial?_slot (name := Str.ofString "__next__") hT F.slot_zip_next
    (wpAny_call_entry F.slot_zip_next hT F.entry_zip_next (z_end D1 D2 D hz hI hO h1 h2 hk fun h' e tk kp ⟨o, ho, hc⟩ => ?_) (F.args_zip_next_1 _))))
  refine wpAny_bind (wpAny_isInstance (T := "StopIteration") (b := true) ⟨o, ho, hc⟩ isSubtype_stop ?_)
  exact wpAny_pure (hQ _ _ kp)
end
/-! ### zip of two tuples is made -/
abbrev tiObj (t : Addr) : Obj := { cls := .type "tuple_iterator", data := .fields #[.ref t, .int 0 0] }
theorem meets_zipT (t1 t2 : Addr) (xs ys : Array Value) :
    Meets (Builtin.«zip.__new__» ⟨[.type "zip", .ref t1, .ref t2], []⟩) (fun _ R s => s.heap.IsTuple t1 xs ∧ s.heap.IsTuple t2 ys ∧ ∀ h1 h2 h3 h4, h1 = s.heap.push (tiObj t1) → h2 = h1.push (tiObj t2) → h3 = h2.push { cls := .type "tuple", data := .seq #[.ref s.heap.objs.size, .ref h1.objs.size] } → h4 = h3.push { cls := .type "tuple", data := .seq #[.none, .none] } →
      R (.ok (.ret (.ref h4.objs.size))) { s with heap := h4.push { cls := .type "zip", data := .fields #[.none, .bool false, .bool false, .ref h2.objs.size, .ref h3.objs.size] } }) :=
  .of_wp fun prog w A R s h => by
    obtain ⟨hp, g, d, tk, os⟩ := s
    obtain ⟨hl1, hl2, h⟩ := h
    have hsub := sub_zip
    have hL1 : Heap.IsTuple (Shared.heap ⟨hp, g, d, tk, os⟩) t1 xs := hl1
    have hL2 : Heap.IsTuple (Shared.heap ⟨hp.push { cls := .type "tuple_iterator", data := .fields #[.ref t1, .int 0 0] }, g, d, tk, os⟩) t2 ys := let ⟨o, eo, r⟩ := hl2; ⟨o, Heap.get?_push_of_some _ eo, r⟩
    wp_walk using wpAny_pyIter_tuple hL1, wpAny_pyIter_tuple hL2
    exact ⟨_, rfl, h _ _ _ _ rfl rfl rfl rfl⟩
section
variable {prog : Program} {w : World} {A : Around} {E : Value → Shared → Prop} {s : Shared}
theorem call_zipT {t1 t2 : Addr} {xs ys : Array Value} {Q : Value → Shared → Prop} (hl1 : s.heap.IsTuple t1 xs) (hl2 : s.heap.IsTuple t2 ys)
    (h : ∀ h' i1 i2 ti to z, IsZip h' z ti to .none → IsPair h' ti (.ref i1) (.ref i2) → IsPair h' to .none .none → h'.IsTupleIter i1 t1 0 → h'.IsTupleIter i2 t2 0 →
      s.heap.objs.size ≤ i1 → i1 < i2 → i2 < ti → ti < to → to < z → (∀ c o, s.heap.get? c = some o → h'.get? c = some o) → Q (.ref z) { s with heap := h' }) :
    wpAny (model prog w) A (call (.type "zip") [.ref t1, .ref t2]) Q E s := by
  refine callType_new F.called_zip (by decide) (F.typeCall_zip_2 _ _) (F.newCall_zip_2 _ _) (fun obj => F.args_object_init_3 obj _ _) F.entry_zip_new
    (meets_zipT t1 t2 xs ys) ⟨hl1, hl2, fun h1 h2 h3 h4 e1 e2 e3 e4 => ?_⟩
  have p : ∀ (h : Heap) (o : Obj), h.objs.size < (h.push o).objs.size := fun h o => by rw [Heap.size_push]; exact Nat.lt_succ_self _
  have g5 := Heap.get?_push_size h4 (o := { cls := .type "zip", data := .fields #[.none, .bool false, .bool false, .ref h2.objs.size, .ref h3.objs.size] }) rfl
  have g4 : h4.get? h3.objs.size = some { cls := .type "tuple", data := .seq #[.none, .none] } := by rw [e4]; exact Heap.get?_push_size _ rfl
  have g3 : h3.get? h2.objs.size = some { cls := .type "tuple", data := .seq #[.ref s.heap.objs.size, .ref h1.objs.size] } := by rw [e3]; exact Heap.get?_push_size _ rfl
  have g2 : h2.get? h1.objs.size = some (tiObj t2) := by rw [e2]; exact Heap.get?_push_size _ rfl
  have g1 : h1.get? s.heap.objs.size = some (tiObj t1) := by rw [e1]; exact Heap.get?_push_size _ rfl
  have u1 : ∀ c o, s.heap.get? c = some o → h1.get? c = some o := fun c o q => by rw [e1]; exact Heap.get?_push_of_some _ q
  have u2 : ∀ c o, h1.get? c = some o → h2.get? c = some o := fun c o q => by rw [e2]; exact Heap.get?_push_of_some _ q
  have u3 : ∀ c o, h2.get? c = some o → h3.get? c = some o := fun c o q => by rw [e3]; exact Heap.get?_push_of_some _ q
  have u4 : ∀ c o, h3.get? c = some o → h4.get? c = some o := fun c o q => by rw [e4]; exact Heap.get?_push_of_some _ q
  refine ⟨⟨_, g5, rfl⟩, h _ s.heap.objs.size h1.objs.size h2.objs.size h3.objs.size h4.objs.size g5 (Heap.get?_push_of_some _ (u4 _ _ g3)) (Heap.get?_push_of_some _ g4) ⟨_, Heap.get?_push_of_some _ (u4 _ _ (u3 _ _ (u2 _ _ g1))), rfl, rfl⟩ ⟨_, Heap.get?_push_of_some _ (u4 _ _ (u3 _ _ g2)), rfl, rfl⟩
    (Nat.le_refl _) ?_ ?_ ?_ ?_ fun c o q => Heap.get?_push_of_some _ (u4 _ _ (u3 _ _ (u2 _ _ (u1 _ _ q))))⟩
  · rw [e1]; exact p _ _
  · rw [e2]; exact p _ _
  · rw [e3]; exact p _ _
  · rw [e4]; exact p _ _
end
end L3

set_option Elab.async false
set_option linter.all false
set_option maxRecDepth 100000
set_option maxHeartbeats 4000000
namespace L3
open PySem PySem.Spec PyProof.Rows L2
theorem drawsE {prog : Program} {w : World} {A : Around} (hh : A.handled = none) (it t : Addr) (hne : t ≠ it) (items : Array Value) (k : Nat) (hk : items[k]? = none) :
    Draws prog w A it [it, t] k (fun _ _ => True) (fun i h => i = k ∧ h.IsTupleIter it t i ∧ h.IsTuple t items) where
  live := fun _ _ st => let ⟨o, ho, _⟩ := st.2.1; ⟨o, ho⟩
  frame := fun _ _ _ st hk => ⟨st.1, st.2.1.at fun o e => hk it (by simp) o e, st.2.2.at fun o e => hk t (by simp) o e⟩
  item := fun i s Q E hi st hQ => absurd st.1 (Nat.ne_of_lt hi)
  done := fun s Q E st hE => tn_end hh st.2.1 st.2.2 hk hE
section
variable {X : Cx} {pins : List (Addr × Obj)} {σ : L2.St} {H : Hp} {s : Shared} {h' : Heap}
/-- several untracked records of ours have turned -/
theorem turnedL {ch : List Addr} {t' : Nat} (I : Inv X pins σ H s) (k : ∀ b o, b ∉ ch → s.heap.get? b = some o → h'.get? b = some o) (hf : ∀ b ∈ ch, FpOk X pins H b) : Inv X pins σ H { s with heap := h', toks := t' } := by
  have nit : ∀ b u, H b = some u → b ∉ ch := fun b u e z => by rw [(hf b z).1] at e; cases e
  refine I.step (g' := s.gens) (d' := s.drawn) (ch := ch) (fun b hb => ?_) (fun b o _ _ hc e _ => k b o hc e) (fun b o _ _ hc e _ => ⟨o.slots, k b o hc e⟩) (fun _ _ _ _ n => n)
    (fun b o hc e => ⟨o, k b o hc e⟩) (fun _ _ e => e) (fun _ _ _ e => e) (fun b ps e => ⟨#[], by rw [e]; simp⟩) (fun m hm => ?_) (fun b u e => ?_) I.bare
  · obtain ⟨_, f1, _, f3, f4, f5⟩ := hf b hb
    exact ⟨f3, f1, f4, f5⟩
  · obtain ⟨o, es, ep, ho, r⟩ := hm
    exact ⟨o, es, ep, k _ o (fun z => (hf _ z).2.1 rfl) ho, r⟩
  · refine (I.hok b u e).stay (fun c v hc q => k c v ?_ q) (fun _ q => q) fun _ _ q => q
    rcases hc with z | z
    · rw [z]; exact nit b u e
    · exact nit c _ z
end
def Itz (K : PySem.W.Frag) (a b : Addr) : It :=
  ⟨fun i H => ∃ xs ys x y, SqT K H a xs ∧ SqT K H b ys ∧ xs[i]? = some x ∧ ys[i]? = some y,
   fun i H v H' => ∃ p x y, v = .ref p ∧ H p = none ∧ H' = upd H p (.tup [x, y]) ∧ (∀ xs, SqT K H a xs → xs[i]? = some x) ∧ ∀ ys, SqT K H b ys → ys[i]? = some y,
   fun i H => ∃ xs ys, SqT K H a xs ∧ SqT K H b ys ∧ (xs.length ≤ i ∨ ys.length ≤ i)⟩
def tnZ (a b z ti to i1 i2 : Addr) (i : Nat) (h : Heap) : Prop := IsZip h z ti to .none ∧ IsPair h ti (.ref i1) (.ref i2) ∧ (∃ u v, IsPair h to u v) ∧ h.IsTupleIter i1 a i ∧ h.IsTupleIter i2 b i
theorem turn_zip {P : Program} {w : World} {K : PySem.W.Frag} {elts : List Expr} {x1 : Nat} {pos : Pos} (a b z ti to i1 i2 : Addr) (l1 : a < i1 ∧ b < i1) (l2 : i1 < i2) (l3 : i2 < ti) (l4 : ti < to) (l5 : to < z) :
    Turn P w K (.Tuple elts x1 pos) (Itz K a b) [z, ti, to, i1, i2] z (tnZ a b z ti to i1 i2) where
  mem := List.mem_cons_self
  obj := fun i h st c hc => by
    obtain ⟨hz, hI, ⟨u, v, hO⟩, ⟨o1, e1, _, d1⟩, ⟨o2, e2, _, d2⟩⟩ := st
    simp only [List.mem_cons, List.not_mem_nil, or_false] at hc
    rcases hc with rfl | rfl | rfl | rfl | rfl
    · exact ⟨_, hz, fun v z => by cases z⟩
    · exact ⟨_, hI, fun v z => by cases z⟩
    · exact ⟨_, hO, fun v z => by cases z⟩
    · exact ⟨_, e1, fun v z => by rw [d1] at z; cases z⟩
    · exact ⟨_, e2, fun v z => by rw [d2] at z; cases z⟩
  keep := fun i h h' st k => by
    obtain ⟨hz, hI, ⟨u, v, hO⟩, h1, h2⟩ := st
    exact ⟨k z (by simp) _ hz, k ti (by simp) _ hI, ⟨u, v, k to (by simp) _ hO⟩, h1.at fun o e => k i1 (by simp) o e, h2.at fun o e => k i2 (by simp) o e⟩
  item := by
    intro X hP hw hK hc i pins s σ H E I hf st hg
    subst hP hw hK
    obtain ⟨xs, ys, x, y, qx, qy, ex, ey⟩ := hg
    obtain ⟨its, rv, p1, hz1⟩ := I.tuple qx
    obtain ⟨jts, rw', p2, hz2⟩ := I.tuple qy
    obtain ⟨u, hu, ru⟩ := rv.get ex
    obtain ⟨v, hv, rv'⟩ := rw'.get ey
    obtain ⟨hz, hI, ⟨a0, b0, hO⟩, h1, h2⟩ := st
    have hu' : its.toArray[i]? = some u := by simpa using hu
    have hv' : jts.toArray[i]? = some v := by simpa using hv
    have D : ZAp z ti to i1 i2 [i1, a] [i2, b] := by
      refine ⟨⟨?_, ?_, ?_, ?_⟩, by simp, by simp, ⟨?_, ?_, ?_, ?_⟩, ⟨?_, ?_, ?_, ?_⟩⟩ <;> simp only [List.mem_cons, List.not_mem_nil, or_false, not_or, ne_eq] <;> (try constructor) <;> (intro q; subst q; simp only [Addr] at *; omega)
    have d1 := drawsT (prog := X.prog) (w := X.w) (A := X.A.in1) (I.ok.hd hc) i1 a (Nat.ne_of_lt l1.1) its.toArray
    have d2 := drawsT (prog := X.prog) (w := X.w) (A := X.A.in1) (I.ok.hd hc) i2 b (Nat.ne_of_lt (Nat.lt_trans l1.2 l2)) jts.toArray
    refine zn_item d1 d2 D hz hI hO ⟨h1, p1⟩ ⟨h2, p2⟩ (Array.getElem?_eq_some_iff.mp hu').1 (Array.getElem?_eq_some_iff.mp hv').1 fun x' y' h' tk px py hz' hO' s1 s2 hT hsz kp => ?_
    have e1 : x' = u := Option.some.inj (px.symm.trans hu')
    have e2 : y' = v := Option.some.inj (py.symm.trans hv')
    subst e1 e2
    refine ⟨_, rfl, wpAny_letOwnedTupleGo_zip hz' fun h2' hz2' sb => ?_⟩
    have kp2 : ∀ c o, c ∉ [z, to, i1, i2] → s.heap.get? c = some o → h2'.get? c = some o := fun c o nc e => (sb.2 c fun q => nc (q ▸ List.mem_cons_self)).trans (kp c o nc e)
    have hsub : ∀ c ∈ [z, to, i1, i2], c ∈ [z, ti, to, i1, i2] := fun c hc => by simp only [List.mem_cons, List.not_mem_nil, or_false] at hc ⊢; rcases hc with q | q | q | q <;> simp [q]
    have lt : ∀ {c o}, s.heap.get? c = some o → s.heap.objs.size ≠ c := fun e => Nat.ne_of_gt (Heap.lt_size e)
    have lt1 : ∀ {c : Addr}, c ∈ [z, ti, to, i1, i2] → c ≠ s.heap.objs.size := fun {c} hc => by
      simp only [List.mem_cons, List.not_mem_nil, or_false] at hc
      rcases hc with q | q | q | q | q <;> subst q
      · exact Ne.symm (lt hz)
      · exact Ne.symm (lt hI)
      · exact Ne.symm (lt hO)
      · obtain ⟨o, e, _⟩ := h1; exact Ne.symm (lt e)
      · obtain ⟨o, e, _⟩ := h2; exact Ne.symm (lt e)
    have hTz : s.heap.objs.size ≠ z := lt hz
    have I1 : Inv X pins σ (upd H s.heap.objs.size (.tup [x, y])) { s with heap := s.heap.push { cls := .type "tuple", data := .seq #[x', y'] }, toks := tk } :=
      I.laid (t' := tk) (fun b o e => Heap.get?_push_of_some _ e) (Nat.le_refl _) (show ObjOk X.prog X.w _ _ _ (.tup [x, y]) from ⟨by show 2 ≤ sizeLine; decide, [x', y'], .cons ru (.cons rv' .nil), IsTup.new _ _⟩)
    have I2 : Inv X pins σ (upd H s.heap.objs.size (.tup [x, y])) { s with heap := h2', toks := tk } := turnedL (s := { s with heap := s.heap.push { cls := .type "tuple", data := .seq #[x', y'] }, toks := tk }) (ch := [z, to, i1, i2]) (t' := tk) I1 (fun c o nc e => by
      by_cases q : c = s.heap.objs.size
      · subst q
        have e' : (s.heap.push { cls := .type "tuple", data := .seq #[x', y'] }).get? s.heap.objs.size = some o := e
        rw [Heap.get?_push_size _ rfl] at e'
        cases e'
        exact (sb.2 _ hTz).trans hT
      · have e' : (s.heap.push { cls := .type "tuple", data := .seq #[x', y'] }).get? c = some o := e
        rw [Heap.get?_push_ne _ _ _ q] at e'
        exact kp2 c o nc e') fun c hc => ⟨by rw [upd_ne (lt1 (hsub c hc))]; exact (hf c (hsub c hc)).1, (hf c (hsub c hc)).2⟩
    refine ⟨.ref s.heap.objs.size, _, I2, rfl, ⟨s.heap.objs.size, x, y, rfl, I.hok.fresh (Nat.le_refl _), rfl, fun zs hq => by rw [I.tuple_inj hq qx]; exact ex, fun zs hq => by rw [I.tuple_inj hq qy]; exact ey⟩, ?_, fun c hc => by rw [upd_ne (lt1 hc)]; exact (hf c hc).1⟩
    have n1 : ti ≠ z := D.ne.1
    refine ⟨hz2', ?_, ⟨x', y', (sb.2 to D.ne.2.1).trans hO'⟩, s1.1.at fun o e => (sb.2 i1 D.i1z).trans e, s2.1.at fun o e => (sb.2 i2 D.i2z).trans e⟩
    refine kp2 ti _ ?_ hI
    simp only [List.mem_cons, List.not_mem_nil, or_false, not_or]
    exact ⟨D.ne.1, D.ne.2.2.1, Ne.symm D.i1ti, Ne.symm D.i2ti⟩
  done := by
    intro X hP hw hK hc i pins s σ H E I hf st hg
    subst hP hw hK
    obtain ⟨xs, ys, qx, qy, hg⟩ := hg
    obtain ⟨its, rv, p1, hz1⟩ := I.tuple qx
    obtain ⟨jts, rw', p2, hz2⟩ := I.tuple qy
    obtain ⟨hz, hI, ⟨a0, b0, hO⟩, h1, h2⟩ := st
    have n1 := rv.length
    have n2 := rw'.length
    have D : ZAp z ti to i1 i2 [i1, a] [i2, b] := by
      refine ⟨⟨?_, ?_, ?_, ?_⟩, by simp, by simp, ⟨?_, ?_, ?_, ?_⟩, ⟨?_, ?_, ?_, ?_⟩⟩ <;> simp only [List.mem_cons, List.not_mem_nil, or_false, not_or, ne_eq] <;> (try constructor) <;> (intro q; subst q; simp only [Addr] at *; omega)
    have fin : ∀ (h' : Heap) (tk : Nat), (∀ c o, c ∉ [z, to, i1, i2] → s.heap.get? c = some o → h'.get? c = some o) → (none : Option Value) = none ∧ Inv X pins σ H { s with heap := h', toks := tk } := fun h' tk kp => ⟨rfl, turnedL I kp fun c hc => hf c (by
      simp only [List.mem_cons, List.not_mem_nil, or_false] at hc ⊢; rcases hc with q | q | q | q <;> simp [q])⟩
    have d1 := drawsT (prog := X.prog) (w := X.w) (A := X.A.in1) (I.ok.hd hc) i1 a (Nat.ne_of_lt l1.1) its.toArray
    have d2 := drawsT (prog := X.prog) (w := X.w) (A := X.A.in1) (I.ok.hd hc) i2 b (Nat.ne_of_lt (Nat.lt_trans l1.2 l2)) jts.toArray
    by_cases hi : xs.length ≤ i
    · have e1 := drawsE (prog := X.prog) (w := X.w) (A := X.A.in1) (I.ok.hd hc) i1 a (Nat.ne_of_lt l1.1) its.toArray i (by simp; omega)
      exact zn_end (k := i) e1 d2 D hz hI hO ⟨rfl, h1, p1⟩ ⟨h2, p2⟩ (.inl rfl) fin
    · have hy : ys.length ≤ i := hg.resolve_left hi
      have e2 := drawsE (prog := X.prog) (w := X.w) (A := X.A.in1) (I.ok.hd hc) i2 b (Nat.ne_of_lt (Nat.lt_trans l1.2 l2)) jts.toArray i (by simp; omega)
      exact zn_end (k := i) d1 e2 D hz hI hO ⟨h1, p1⟩ ⟨rfl, h2, p2⟩ (.inr ⟨by simp; omega, rfl⟩) fin
  self := fun _ _ _ _ _ st h => wpAny_pyIter_zip st.1 h
section
variable {X : Cx} {elts : List Expr} {x1 : Nat} {tpos pos p : Pos} {ea eb : Expr}
def iZip (K : PySem.W.Frag) (t : TA) : TI := fun σ H R => t σ H fun vs H1 => ∃ a b, vs = [.ref a, .ref b] ∧ (∃ xs, SqT K H1 a xs) ∧ (∃ ys, SqT K H1 b ys) ∧ R (Itz K a b) H1
theorem pi_zip {t : TA} (hg : Gl X "zip") (hm : X.mg "zip" = none) (hv : bootBuiltins "zip" = some (.type "zip")) (ha : PA X [ea, eb] t)
    (hs : starEach [ea, eb] X.env = [(false, eval ea X.env), (false, eval eb X.env)] := by rfl) (hs2 : starEach [eb] X.env = [(false, eval eb X.env)] := by rfl) :
    PI X (.Tuple elts x1 tpos) (.Call (.Name "zip" p) [ea, eb] [] pos) (iZip X.K t) := by
  intro pins s σ H R I h
  refine Call_ (ld_blt I hg hm hv (PyProof.Rows.callWith_type1 (thn (ha pos pins s σ H _ I h) fun us s1 ⟨vs, H1, I1, r1, q1⟩ => ?_) (by rw [hs, hs2]) (by rw [hs2]; rfl)))
  obtain ⟨a, b, e, ⟨xs, sa⟩, ⟨ys, sb⟩, q⟩ := q1
  subst e
  cases r1 with
  | cons r rr =>
    cases rr with
    | cons r' rr =>
      cases rr
      cases r
      cases r'
      obtain ⟨its, rv, p1, hz1⟩ := I1.tuple sa
      obtain ⟨jts, rw', p2, hz2⟩ := I1.tuple sb
      have la : a < s1.heap.objs.size := by obtain ⟨o, e, _⟩ := p1; exact Heap.lt_size e
      have lb : b < s1.heap.objs.size := by obtain ⟨o, e, _⟩ := p2; exact Heap.lt_size e
      refine call_zipT p1 p2 fun h' i1 i2 ti to z hz hI hO h1 h2 l0 l1 l2 l3 l4 kp => wpAny_pyIter_zip hz ?_
      have fr : ∀ c, i1 ≤ c → FpOk X pins H1 c := fun c hc => I1.fpOk (Nat.le_trans l0 hc) (I1.hok.fresh (Nat.le_trans l0 hc))
      refine ⟨z, [z, ti, to, i1, i2], _, _, H1, rfl, I1.kept (t' := s1.toks) kp, turn_zip a b z ti to i1 i2 ⟨Nat.lt_of_lt_of_le la l0, Nat.lt_of_lt_of_le lb l0⟩ l1 l2 l3 l4, ⟨hz, hI, ⟨_, _, hO⟩, h1, h2⟩, fun c hc => fr c ?_, q⟩
      simp only [List.mem_cons, List.not_mem_nil, or_false] at hc
      simp only [Addr] at *
      omega
/-- zip of two tuples, over trees -/
def zip3 : List T → List T → List T
  | x :: xs, y :: ys => .tup [x, y] :: zip3 xs ys
  | _, _ => []
theorem zip3_get : ∀ (xs ys : List T) (i : Nat), (zip3 xs ys)[i]? = (match xs[i]?, ys[i]? with
    | some x, some y => some (.tup [x, y])
    | _, _ => none)
  | [], ys, i => by simp [zip3]
  | x :: xs, [], i => by
    simp only [zip3, List.getElem?_nil]
    cases (x :: xs)[i]? <;> rfl
  | x :: xs, y :: ys, 0 => by simp [zip3]
  | x :: xs, y :: ys, i + 1 => by simp only [zip3, List.getElem?_cons_succ]; exact zip3_get xs ys i
theorem zip3_len : ∀ (xs ys : List T), (zip3 xs ys).length = min xs.length ys.length
  | [], ys => by simp [zip3]
  | x :: xs, [] => by simp [zip3]
  | x :: xs, y :: ys => by simp [zip3, zip3_len xs ys]
def iZip3 (ta : TA3) : TI3 := fun σ H R => ta σ H fun vs H1 => match vs with
  | [.tup xs, .tup ys] => R (zip3 xs ys) still0 H1
  | _ => False
theorem walk_zip {K : PySem.W.Frag} {H : Hp} {a b : Addr} {ts us : List T} {xs ys : List V} (sa : SqT K H a xs) (ra : Reps K H ts xs) (sb : SqT K H b ys) (rb : Reps K H us ys) : Walk3 K (Itz K a b) (zip3 ts us) still0 H := fun H' H3' le sh st => by
  have hla := ra.length
  have hlb := rb.length
  refine ⟨fun i hi => ⟨xs, ys, le _ _ sa, le _ _ sb, by rw [zip3_len] at hi; omega⟩, fun i t e => ?_⟩
  rw [zip3_get] at e
  cases e1 : ts[i]? with
  | none => rw [e1] at e; cases e
  | some x =>
    cases e2 : us[i]? with
    | none => rw [e1, e2] at e; cases e
    | some y =>
      rw [e1, e2] at e
      cases e
      obtain ⟨v, ev, rv⟩ := ra.get e1
      obtain ⟨v', ev', rv'⟩ := rb.get e2
      refine ⟨⟨xs, ys, v, v', le _ _ sa, le _ _ sb, ev, ev'⟩, fun z H'' yl => ?_⟩
      obtain ⟨p, x', y', rfl, hp, rfl, q1, q2⟩ := yl
      have := (q1 xs (le _ _ sa)).symm.trans ev
      cases this
      have := (q2 ys (le _ _ sb)).symm.trans ev'
      cases this
      exact ⟨upd_tupLe hp, sh.new hp, SimH.newTup (H3 := H3') hp (.cons (rv.mono le) (.cons (rv'.mono le) .nil))⟩
theorem bt_zip : bootBuiltins "zip" = some (.type "zip") := by decide +kernel
theorem i3_zip {ta : TA3} (hg : Gl X "zip") (hm : X.mg "zip" = none) (ha : PA3 X [ea, eb] ta)
    (hs : starEach [ea, eb] X.env = [(false, eval ea X.env), (false, eval eb X.env)] := by rfl) (hs2 : starEach [eb] X.env = [(false, eval eb X.env)] := by rfl) :
    PI3 X (.Tuple elts x1 tpos) (.Call (.Name "zip" p) [ea, eb] [] pos) (iZip3 ta) := by
  refine PI.imp (pi_zip hg hm bt_zip ha hs hs2) ?_
  rintro σ H R ⟨σ3, H3, R3, ss, sh, h, k⟩
  refine ⟨σ3, H3, _, ss, sh, h, fun vs H' ts H3' le sh' r q => ?_⟩
  match ts, q, r with
  | [.tup xs, .tup ys], q, r =>
    obtain ⟨v, w, rfl, r1, r2⟩ := r.two'
    obtain ⟨a, us, rfl, sa, ra⟩ := r1.tup
    obtain ⟨b, us', rfl, sb, rb⟩ := r2.tup
    exact ⟨a, b, rfl, ⟨_, sa⟩, ⟨_, sb⟩, k _ _ still0 H' H3' le sh' (walk_zip sa ra sb rb) q⟩
theorem q_iZip (ta : TA3) {σ : St3} {H : Hp3} {R : List T → (Hp3 → Prop) → Hp3 → Prop} : iZip3 ta σ H R = ta σ H fun vs H1 => match vs with
  | [.tup xs, .tup ys] => R (zip3 xs ys) still0 H1
  | _ => False := rfl
end
end L3

set_option Elab.async false
set_option linter.all false
set_option maxRecDepth 100000
set_option maxHeartbeats 1000000
namespace L3
open PySem PySem.Spec PyProof.Rows L2
/-- [f(x, y) for x, y in row], f without a trace -/
theorem cIter_pure2 {α : Type} (e1 e2 f : α → T) (as : List α) (rest : St3) {te : TE3} {still : Hp3 → Prop} {fin : List T → Hp3 → Prop} {v u : Option T} {H : Hp3} (hst : still H) (hl : as.length ≤ sizeLine)
    (ht : ∀ a ∈ as, ∀ Q : VK3, Q (f a) H → te (some (e1 a) :: some (e2 a) :: rest) H Q) (hfin : fin (as.map f) H) :
    cIter3 (gTup3 2 (gCons3 (gName3 0) (gCons3 (gName3 1) gNil3))) tYes3 te still fin (as.map fun a => .tup [e1 a, e2 a]) [] (v :: u :: rest) H := by
  refine cIter_go (fun r ys σ H' => ∃ (rs ds : List α) (v u : Option T), σ = v :: u :: rest ∧ r = rs.map (fun a => .tup [e1 a, e2 a]) ∧ ys = ds.map f ∧ ds ++ rs = as ∧ H' = H) ⟨as, [], v, u, rfl, rfl, rfl, rfl, rfl⟩ ?_ ?_
  · rintro ys σ H' ⟨rs, ds, v, u, rfl, hrs, rfl, hsp, rfl⟩
    have hrs' : rs = [] := List.map_eq_nil_iff.mp hrs.symm
    subst hrs'
    rw [List.append_nil] at hsp
    subst hsp
    exact ⟨hst, by rw [List.length_map]; exact hl, hfin⟩
  · rintro x r ys σ H' N ⟨rs, ds, v, u, rfl, hrs, rfl, hsp, rfl⟩ hN
    cases rs with
    | nil => cases hrs
    | cons t rs =>
      injection hrs with a1 a2
      subst a1 a2
      refine ⟨hst, rfl, ?_⟩
      show te (some (e1 t) :: some (e2 t) :: rest) H' _
      refine ht t (by rw [← hsp]; simp) _ ⟨?_, hN _ _ _ ⟨rs, ds ++ [t], _, _, rfl, rfl, by simp, by rw [← hsp]; simp, rfl⟩⟩
      have := congrArg List.length hsp
      simp only [List.length_append, List.length_cons] at this
      rw [List.length_map]
      omega
theorem zip3_self : ∀ (ts : List T), zip3 ts ts = ts.map fun t => .tup [t, t]
  | [] => rfl
  | t :: r => by rw [zip3, zip3_self r]; rfl
/-- trees of texts, whole numbers and tuples, so deep -/
def shp : Nat → T → Bool
  | _, .str _ => true
  | _, .int _ => true
  | d + 1, .tup ts => decide (ts.length ≤ sizeLine) && ts.all (shp d)
  | _, _ => false
def spSame (d : Nat) : Sp3 := fun ts H Q => ∃ t, d ≠ 0 ∧ ts = [t, t] ∧ shp (d - 1) t = true ∧ Q (.bl true) H
theorem fn3_none {P : Program} {w : World} {K : PySem.W.Frag} {mg : Str → Option Value} {base : Heap} {k : Nat} {f : Addr} {fd : FuncData} {ps : List Str} {sp : Sp3} (h : ∀ ts H Q, ¬ sp ts H Q) : FnOk3 P w K mg base k f fd ps sp :=
  ⟨fun vs H Q E ⟨ts, H3, Q3, _, _, q, _⟩ => absurd q (h _ _ _), fun A outer s H args us vs Q E _ _ _ _ ⟨ts, H3, Q3, _, _, q, _⟩ => absurd q (h _ _ _)⟩
theorem all_true {n : Nat} : (List.replicate n true).all id = true := by induction n <;> simp_all [List.replicate]
theorem bools_true (ts : List T) : bools3 (ts.map fun _ => T.bl true) = some (List.replicate ts.length true) := by
  induction ts with
  | nil => rfl
  | cons t r ih => simp [bools3, ih, List.replicate]
section
variable {H : Hp3} {Q : VK3}
theorem qi_str (x : T) : r3Isi [x, .ty "str"] H Q = oq (isT "str" x H) fun b => Q (.bl b) H := by rw [q_isi]; exact propext ⟨fun h => h.2, fun h => ⟨by simp, h⟩⟩
theorem it_str_str (x : Str) : isT "str" (.str x) H = some true := rfl
theorem it_int_str (x : Int) : isT "str" (.int x) H = some false := rfl
theorem it_tup_str (x : List T) : isT "str" (.tup x) H = some false := rfl
theorem it_bl_str (x : Bool) : isT "str" (.bl x) H = some false := rfl
theorem it_non_str  : isT "str" (.non) H = some false := rfl
theorem qi_int (x : T) : r3Isi [x, .ty "int"] H Q = oq (isT "int" x H) fun b => Q (.bl b) H := by rw [q_isi]; exact propext ⟨fun h => h.2, fun h => ⟨by simp, h⟩⟩
theorem it_str_int (x : Str) : isT "int" (.str x) H = some false := rfl
theorem it_int_int (x : Int) : isT "int" (.int x) H = some true := rfl
theorem it_tup_int (x : List T) : isT "int" (.tup x) H = some false := rfl
theorem it_bl_int (x : Bool) : isT "int" (.bl x) H = some true := rfl
theorem it_non_int  : isT "int" (.non) H = some false := rfl
theorem qi_bool (x : T) : r3Isi [x, .ty "bool"] H Q = oq (isT "bool" x H) fun b => Q (.bl b) H := by rw [q_isi]; exact propext ⟨fun h => h.2, fun h => ⟨by simp, h⟩⟩
theorem it_str_bool (x : Str) : isT "bool" (.str x) H = some false := rfl
theorem it_int_bool (x : Int) : isT "bool" (.int x) H = some false := rfl
theorem it_tup_bool (x : List T) : isT "bool" (.tup x) H = some false := rfl
theorem it_bl_bool (x : Bool) : isT "bool" (.bl x) H = some true := rfl
theorem it_non_bool  : isT "bool" (.non) H = some false := rfl
theorem qi_tuple (x : T) : r3Isi [x, .ty "tuple"] H Q = oq (isT "tuple" x H) fun b => Q (.bl b) H := by rw [q_isi]; exact propext ⟨fun h => h.2, fun h => ⟨by simp, h⟩⟩
theorem it_str_tuple (x : Str) : isT "tuple" (.str x) H = some false := rfl
theorem it_int_tuple (x : Int) : isT "tuple" (.int x) H = some false := rfl
theorem it_tup_tuple (x : List T) : isT "tuple" (.tup x) H = some true := rfl
theorem it_bl_tuple (x : Bool) : isT "tuple" (.bl x) H = some false := rfl
theorem it_non_tuple  : isT "tuple" (.non) H = some false := rfl
theorem qi_list (x : T) : r3Isi [x, .ty "list"] H Q = oq (isT "list" x H) fun b => Q (.bl b) H := by rw [q_isi]; exact propext ⟨fun h => h.2, fun h => ⟨by simp, h⟩⟩
theorem it_str_list (x : Str) : isT "list" (.str x) H = some false := rfl
theorem it_int_list (x : Int) : isT "list" (.int x) H = some false := rfl
theorem it_tup_list (x : List T) : isT "list" (.tup x) H = some false := rfl
theorem it_bl_list (x : Bool) : isT "list" (.bl x) H = some false := rfl
theorem it_non_list  : isT "list" (.non) H = some false := rfl
theorem dec_rfl {α : Type} [DecidableEq α] (a : α) : decide (a = a) = true := decide_eq_true rfl
end
end L3

set_option Elab.async false
set_option linter.all false
set_option maxRecDepth 100000
set_option maxHeartbeats 4000000
namespace M
open PySem PySem.Spec PyProof.Rows L2 L3
/-! ### the deck -/
def dkL (c l a s m : T) : List (Str × T) := [("cells", c), ("left", l), ("at", a), ("seed", s), ("mixed", m)]
theorem n_cl : ¬ (("cells" : Str) = "left") := by decide +kernel
theorem n_ca : ¬ (("cells" : Str) = "at") := by decide +kernel
theorem n_cs : ¬ (("cells" : Str) = "seed") := by decide +kernel
theorem n_cm : ¬ (("cells" : Str) = "mixed") := by decide +kernel
theorem n_la : ¬ (("left" : Str) = "at") := by decide +kernel
theorem n_ls : ¬ (("left" : Str) = "seed") := by decide +kernel
theorem n_lm : ¬ (("left" : Str) = "mixed") := by decide +kernel
theorem n_as : ¬ (("at" : Str) = "seed") := by decide +kernel
theorem n_am : ¬ (("at" : Str) = "mixed") := by decide +kernel
theorem n_sm : ¬ (("seed" : Str) = "mixed") := by decide +kernel
theorem lk_c (c l a s m : T) : look3 "cells" (dkL c l a s m) = some c := by simp only [dkL, look3, if_true]
theorem lk_l (c l a s m : T) : look3 "left" (dkL c l a s m) = some l := by simp only [dkL, look3, n_cl, if_false, if_true]
theorem lk_a (c l a s m : T) : look3 "at" (dkL c l a s m) = some a := by simp only [dkL, look3, n_ca, n_la, if_false, if_true]
theorem lk_s (c l a s m : T) : look3 "seed" (dkL c l a s m) = some s := by simp only [dkL, look3, n_cs, n_ls, n_as, if_false, if_true]
theorem lk_m (c l a s m : T) : look3 "mixed" (dkL c l a s m) = some m := by simp only [dkL, look3, n_cm, n_lm, n_am, n_sm, if_false, if_true]
theorem pt_l (c l a s m v : T) : put3 "left" v (dkL c l a s m) = dkL c v a s m := by
  simp [dkL, put3, n_cl, n_la, Ne.symm n_la, Ne.symm n_ls, Ne.symm n_lm]
theorem pt_a (c l a s m v : T) : put3 "at" v (dkL c l a s m) = dkL c l v s m := by
  simp [dkL, put3, n_ca, n_la, Ne.symm n_as, Ne.symm n_am]
theorem pt_s (c l a s m v : T) : put3 "seed" v (dkL c l a s m) = dkL c l a v m := by
  simp [dkL, put3, n_cs, n_ls, n_as, Ne.symm n_sm]
theorem dk_mrg (c l a s m : T) : mrg3 [] [("cells", c), ("left", l), ("at", a), ("seed", s), ("mixed", m)] = dkL c l a s m := by
  simp [mrg3, put3, dkL, n_cl, n_ca, n_cs, n_cm, n_la, n_ls, n_lm, n_as, n_am, n_sm]
theorem dk_len (c l a s m : T) : (dkL c l a s m).length = 5 := rfl
structure Deck (H : Hp3) (d c : Addr) : Prop where
  dk : ∃ (l a s : Int) (m : Bool), H d = some (.dct (dkL (.ref c) (.int l) (.int a) (.int s) (.bl m))) ∧ 0 ≤ s ∧ s < 2 ^ 32
  cs : ∃ ns : List Int, H c = some (.lst (ns.map T.int)) ∧ ns ≠ [] ∧ ns.length ≤ 64
/-- behind a draw: the deck again, all else as it was -/
structure Drew (d c : Addr) (H H' : Hp3) : Prop where
  deck : Deck H' d c
  off : ∀ b, b ≠ d → b ≠ c → H' b = H b
theorem Deck.ne {H : Hp3} {d c : Addr} (D : Deck H d c) : d ≠ c := by
  obtain ⟨⟨l, a, s, m, h, _⟩, ns, h2, _⟩ := D
  exact ne3 h h2 (by intro z; cases z)
theorem Drew.trans {d c : Addr} {H H1 H2 : Hp3} (a : Drew d c H H1) (b : Drew d c H1 H2) : Drew d c H H2 := ⟨b.deck, fun x h1 h2 => (b.off x h1 h2).trans (a.off x h1 h2)⟩
theorem Deck.refl {H : Hp3} {d c : Addr} (D : Deck H d c) : Drew d c H H := ⟨D, fun _ _ _ => rfl⟩
theorem cut_31 (a b c : T) : cut3 [a, b, c] (some 1) none = [b, c] := rfl
/-- what stood is kept, but for the deck -/
def Keep (d c : Addr) (H H' : Hp3) : Prop := ∀ b o, H b = some o → b ≠ d → b ≠ c → H' b = some o
theorem Keep.refl {d c : Addr} {H : Hp3} : Keep d c H H := fun _ _ h _ _ => h
theorem Keep.drew {d c : Addr} {H H1 H2 : Hp3} (a : Keep d c H H1) (b : Drew d c H1 H2) : Keep d c H H2 := fun x o h h1 h2 => by rw [b.off x h1 h2]; exact a x o h h1 h2
theorem Keep.new {d c : Addr} {H H1 : Hp3} {p : Addr} {u : O3} (a : Keep d c H H1) (hp : H1 p = none) : Keep d c H (up3 H1 p u) := fun x o h h1 h2 => by
  have := a x o h h1 h2
  rw [up3_ne (ne3n this hp)]; exact this
theorem Deck.new {d c : Addr} {H : Hp3} {p : Addr} {u : O3} (D : Deck H d c) (h1 : p ≠ d) (h2 : p ≠ c) : Deck (up3 H p u) d c := by
  obtain ⟨⟨l, a, sd, m, hd, s0, s1⟩, ns, hc, hne, hlen⟩ := D
  exact ⟨⟨l, a, sd, m, by rw [up3_ne (Ne.symm h1)]; exact hd, s0, s1⟩, ns, by rw [up3_ne (Ne.symm h2)]; exact hc, hne, hlen⟩
theorem Deck.nd {d c p : Addr} {H : Hp3} (D : Deck H d c) (hp : H p = none) : p ≠ d := fun e => by obtain ⟨⟨_, _, _, _, h, _⟩, _⟩ := D; rw [← e, hp] at h; cases h
theorem Deck.nc {d c p : Addr} {H : Hp3} (D : Deck H d c) (hp : H p = none) : p ≠ c := fun e => by obtain ⟨_, _, h, _⟩ := D; rw [← e, hp] at h; cases h
/-- behind a def that draws: what it made for itself is forgotten -/
theorem fin_drew {d c : Addr} {H H' : Hp3} {Q : VK3} {v : T} (D : Deck H' d c) (k : Keep d c H H') (q : ∀ H'', Drew d c H H'' → Q v H'') : Fin3 Q v H' := by
  refine ⟨fun b => if b = d ∨ b = c then H' b else H b, fun b o hb => ?_, q _ ⟨?_, fun b h1 h2 => ?_⟩⟩
  · by_cases h : b = d ∨ b = c
    · simp only [h, if_true] at hb; exact hb
    · simp only [h, if_false] at hb
      exact k b o hb (fun e => h (.inl e)) (fun e => h (.inr e))
  · obtain ⟨⟨l, a, sd, m, hd, s0, s1⟩, ns, hc, hne, hlen⟩ := D
    exact ⟨⟨l, a, sd, m, by simp only [true_or, if_true]; exact hd, s0, s1⟩, ns, by simp only [or_true, if_true]; exact hc, hne, hlen⟩
  · simp only [h1, h2, or_self, if_false]
end M

set_option Elab.async false
set_option linter.all false
set_option maxRecDepth 100000
set_option maxHeartbeats 4000000
namespace M
open PySem PySem.Spec PyProof.Rows L2 L3
/-- a name: one to eight small letters -/
structure isNm (x : Str) : Prop where
  lo : 1 ≤ x.length
  hi : x.length ≤ 8
  az : ∀ c ∈ x.cps.toList, 97 ≤ c ∧ c ≤ 122
/-- some names, none twice -/
structure Nms (ws : List Str) : Prop where
  nm : ∀ x ∈ ws, isNm x
  nd : ws.Nodup
theorem Nms.nil : Nms [] := ⟨fun _ h => (nomatch h), List.nodup_nil⟩
theorem Nms.snoc {ws : List Str} {x : Str} (n : Nms ws) (h : isNm x) (hx : x ∉ ws) : Nms (ws ++ [x]) :=
  ⟨fun y hy => (List.mem_append.mp hy).elim (n.nm y) fun z => by rw [List.mem_singleton.mp z]; exact h, nd_snoc n.nd hx⟩
/-- a works -/
structure Wk where
  tasks : List (Str × Int × List Str)
  orders : List (Str × Str)
  pairs : List (Str × Str × Str)
  row : List Str
def sT (xs : List Str) : T := .tup (xs.map T.str)
def tkT (t : Str × Int × List Str) : T := .tup [.str t.1, .int t.2.1, sT t.2.2]
def orT (o : Str × Str) : T := .tup [.str o.1, .str o.2]
def prT (p : Str × Str × Str) : T := .tup [.str p.1, .str p.2.1, .str p.2.2]
def Wk.enc (W : Wk) : T := .tup [.tup (W.tasks.map tkT), .tup (W.orders.map orT), .tup (W.pairs.map prT), sT W.row]
structure tkOk (t : Str × Int × List Str) : Prop where
  nm : isNm t.1
  lo : 1 ≤ t.2.1
  hi : t.2.1 < 10 ^ 60
  ks : Nms t.2.2
  kl : t.2.2.length ≤ 4
structure WkOk (W : Wk) : Prop where
  t1 : 1 ≤ W.tasks.length
  t8 : W.tasks.length ≤ 8
  tk : ∀ t ∈ W.tasks, tkOk t
  nd : (W.tasks.map (·.1)).Nodup
  os : W.orders.length ≤ 28
  od : W.orders.Nodup
  oo : ∀ o ∈ W.orders, o.1 ≠ o.2 ∧ o.1 ∈ W.tasks.map (·.1) ∧ o.2 ∈ W.tasks.map (·.1)
  ps : W.pairs.length ≤ 12
  pd : W.pairs.Nodup
  pp : ∀ p ∈ W.pairs, (p.1 = "with" ∨ p.1 = "apart") ∧ p.2.1 ≠ p.2.2 ∧ p.2.1 ∈ W.tasks.map (·.1) ∧ p.2.2 ∈ W.tasks.map (·.1)
  r1 : 1 ≤ W.row.length
  r8 : W.row.length ≤ 8
  rn : ∀ x ∈ W.row, isNm x
theorem orT_inj {a b : Str × Str} (h : orT a = orT b) : a = b := by
  obtain ⟨a1, a2⟩ := a
  obtain ⟨b1, b2⟩ := b
  simp only [orT, T.tup.injEq, List.cons.injEq, T.str.injEq, and_true] at h
  rw [h.1, h.2]
theorem prT_inj {a b : Str × Str × Str} (h : prT a = prT b) : a = b := by
  obtain ⟨a1, a2, a3⟩ := a
  obtain ⟨b1, b2, b3⟩ := b
  simp only [prT, T.tup.injEq, List.cons.injEq, T.str.injEq, and_true] at h
  rw [h.1, h.2.1, h.2.2]
theorem mem_map_inj {α : Type} {f : α → T} (hf : ∀ {a b}, f a = f b → a = b) {x : α} {xs : List α} : f x ∈ xs.map f ↔ x ∈ xs := by
  rw [List.mem_map]
  exact ⟨fun ⟨y, hy, e⟩ => hf e ▸ hy, fun h => ⟨x, h, rfl⟩⟩
theorem str_inj {a b : Str} (h : T.str a = T.str b) : a = b := by injection h
theorem memN {α : Type} {f : α → T} (hf : ∀ {a b}, f a = f b → a = b) {x : α} {xs : List α} : memB true (f x) (xs.map f) = true ↔ x ∉ xs := by
  unfold memB
  simp [mem_map_inj hf]
theorem memI {α : Type} {f : α → T} (hf : ∀ {a b}, f a = f b → a = b) {x : α} {xs : List α} : memB false (f x) (xs.map f) = true ↔ x ∈ xs := by
  unfold memB
  simp [mem_map_inj hf]
theorem pl_str (x : Str) : pl 20 (.str x) = true := rfl
theorem pl_strs (xs : List Str) : (xs.map T.str).all (pl 20) = true := by rw [List.all_eq_true]; intro t ht; obtain ⟨x, _, rfl⟩ := List.mem_map.mp ht; rfl
theorem pl_orT (o : Str × Str) : pl 20 (orT o) = true := rfl
theorem pl_prT (o : Str × Str × Str) : pl 20 (prT o) = true := rfl
theorem pl_ors (xs : List (Str × Str)) : (xs.map orT).all (pl 20) = true := by rw [List.all_eq_true]; intro t ht; obtain ⟨x, _, rfl⟩ := List.mem_map.mp ht; rfl
theorem pl_prs (xs : List (Str × Str × Str)) : (xs.map prT).all (pl 20) = true := by rw [List.all_eq_true]; intro t ht; obtain ⟨x, _, rfl⟩ := List.mem_map.mp ht; rfl
end M

set_option Elab.async false
set_option linter.all false
set_option maxRecDepth 100000
set_option maxHeartbeats 4000000
namespace M
open PySem PySem.Spec PyProof.Rows L2 L3
/-! ### texts by their codes -/
def mkS (l : List Nat) : Str := ⟨l.toArray⟩
theorem mkS_cps (l : List Nat) : (mkS l).cps.toList = l := rfl
theorem mkS_len (l : List Nat) : (mkS l).length = l.length := by show (l.toArray).size = _; simp
theorem mkS_of (x : Str) : ∃ l, x = mkS l := ⟨x.cps.toList, by cases x; rfl⟩
theorem mkS_inj {a b : List Nat} (h : mkS a = mkS b) : a = b := by have := congrArg (fun x => x.cps.toList) h; exact this
theorem mkS_app (a b : List Nat) : mkS a ++ mkS b = mkS (a ++ b) := by
  show (⟨a.toArray ++ b.toArray⟩ : Str) = ⟨(a ++ b).toArray⟩
  simp
theorem sl_to (l : List Nat) (k : Nat) (h : k ≤ l.length) : PySem.Txt.slice (mkS l) none (some (k : Int)) = mkS (l.take k) := by
  have e := StrLaws.sliceText_to (x := mkS l) (j := (k : Int)) ⟨Int.natCast_nonneg k, by rw [mkS_cps]; omega⟩
  rw [mkS_cps, List.drop_zero, Int.sub_zero, Int.toNat_natCast] at e
  exact e
theorem sl_from (l : List Nat) (k : Nat) (h : k ≤ l.length) : PySem.Txt.slice (mkS l) (some (k : Int)) none = mkS (l.drop k) := by
  have e := StrLaws.sliceText_from (x := mkS l) (i := (k : Int)) ⟨Int.natCast_nonneg k, by rw [mkS_cps]; omega⟩
  rw [mkS_cps, Int.toNat_natCast, List.take_of_length_le (by rw [List.length_drop]; omega)] at e
  exact e
def abcL : List Nat := [97, 98, 99, 100, 101, 102, 103, 104, 105, 106, 107, 108, 109, 110, 111, 112, 113, 114, 115, 116, 117, 118, 119, 120, 121, 122]
theorem abc_eq : ("abcdefghijklmnopqrstuvwxyz" : Str) = mkS abcL := by decide +kernel
theorem abc_nat : ∀ i : _root_.Fin 26, abcL[i.val]? = some (97 + i.val) := by decide
theorem abc_at (i : Int) (h0 : 0 ≤ i) (h1 : i < 26) : atI abcL i = some (97 + i.toNat) := by
  obtain ⟨j, rfl⟩ := Int.eq_ofNat_of_zero_le h0
  have hj : j < 26 := by omega
  have := abc_nat ⟨j, hj⟩
  exact atI_nat (by simpa using this)
theorem abc_ix0 : ∀ i : _root_.Fin 26, Builtin.Str.occurrences (mkS abcL) (mkS [97 + i.val]) 0 26 1 = [i.val] := by decide +kernel
theorem abc_ix (c : Nat) (h0 : 97 ≤ c) (h1 : c ≤ 122) : Builtin.Str.occurrences (mkS abcL) (mkS [c]) 0 (mkS abcL).length 1 = [c - 97] := by
  have := abc_ix0 ⟨c - 97, by omega⟩
  rw [show 97 + (c - 97) = c by omega] at this
  exact this
theorem nm_mk {l : List Nat} (h1 : 1 ≤ l.length) (h8 : l.length ≤ 8) (h : ∀ c ∈ l, 97 ≤ c ∧ c ≤ 122) : isNm (mkS l) := ⟨by rw [mkS_len]; exact h1, by rw [mkS_len]; exact h8, by rw [mkS_cps]; exact h⟩
theorem pigeon : ∀ (n : Nat) (l : List Nat), l.length < n → ∃ m, m < n ∧ m ∉ l
  | 0, l, h => by omega
  | n + 1, l, h => by
    by_cases hn : n ∈ l
    · have hl := List.length_erase_of_mem hn
      have : 0 < l.length := List.length_pos_of_mem hn
      obtain ⟨m, hm, hx⟩ := pigeon n (l.erase n) (by omega)
      exact ⟨m, by omega, fun z => hx ((List.mem_erase_of_ne (by omega)).mpr z)⟩
    · exact ⟨n, by omega, hn⟩
/-- some first letter further on is none of theirs -/
theorem free_letter (c : Nat) (h0 : 97 ≤ c) (h1 : c ≤ 122) (ws : List Str) (hl : ws.length ≤ 7) : ∃ m : Nat, ∀ w ∈ ws, w.cps.toList.head? ≠ some (97 + (c - 97 + m) % 26) := by
  obtain ⟨t, ht, hx⟩ := pigeon 26 (ws.map fun w => w.cps.toList.headD 0 - 97) (by rw [List.length_map]; omega)
  refine ⟨t + 26 - (c - 97), fun w hw e => hx ?_⟩
  rw [List.mem_map]
  refine ⟨w, hw, ?_⟩
  have e2 : (c - 97 + (t + 26 - (c - 97))) % 26 = t := by omega
  rw [e2] at e
  cases hq : w.cps.toList with
  | nil => rw [hq] at e; cases e
  | cons a r => rw [hq] at e; injection e with e; simp only [List.headD_cons]; omega
end M

set_option Elab.async false
set_option linter.all false
set_option maxRecDepth 100000
set_option maxHeartbeats 4000000
namespace M
open PySem PySem.Spec PyProof.Rows L2 L3
def top (i : Nat) : Stmt := PySem.Challenge.pw_stationrow_k05_turned_about.main.body.getD i (.Pass ⟨0, 0, 0, 0⟩)
local macro_rules | `(tactic| walk_at "rd") => `(tactic| try simp only [*, ne_eq, not_false_eq_true, up3_ne, tSeq3, tAsg3, tC3, gName3, tFor3, tCons3, tNil3, tRet3, tRetN3, tOp3, tIfS3, tAnd3, tOr3, tNot3, tCB3, tBM3, tDrop3, tNext3, gSub3, tCall3, tTup3, tLst3, tIf3, tSl3, tNoPart3, tYes3, q_vq, q_var, q_bq, q_test, q_chain, q_andV, q_orV, q_notV, q_oq, q_I, q_I0, q_addI, q_addS, q_addT, q_addL, q_catH, q_eqI, q_eqS, q_eqB, q_eqT, q_eqL, q_eqH, q_inT, q_inS, q_inL, q_inH, q_ixL, q_ixH, q_ixT, q_ixS, q_setL, q_stH, q_pq, q_part, q_slL, q_slH, q_slHr, q_slT, q_slS, q_D, q_dgH, q_dput, q_dpH, q_dpO, q_lenL, q_lnH, q_lenT, q_lenS, q_listL, q_liH, q_listT, q_tupL, q_tpH, q_tupT, q_intI, q_intB, q_strI, q_sumL, q_smH, q_isi, q_tyS, q_tyL, q_tyH, q_app, q_apH, q_ext, q_exH, q_pop, q_poH, q_joinL, q_joH, q_joinT, q_index, q_idH, q_rng, q_rg1, q_rg2, q_iTup, q_tuq, q_iList, q_liq, q_liO, q_gNil, q_gCons, q_gTup, up3_same, lk_c, lk_l, lk_a, lk_s, lk_m, pt_l, pt_a, pt_s, dk_len, cut_31, tDisp3, q_prs0, q_prs1, dk_mrg, ix_z, at0, at1, at2, at3, List.eraseIdx_cons_zero, Int.toNat_natCast, up3_up3, List.length_map, List.length_cons, List.length_nil, Nat.zero_add, Bool.false_eq_true, if_false, if_true, List.getElem?_cons_zero, List.getElem?_cons_succ, List.set_cons_zero, List.set_cons_succ])
section
variable {P : Program} {w : World} {K : PySem.W.Frag} {mg : Str → Option Value} {base : Heap}
def spNext : Sp3 := fun ts H Q => ∃ d c, ts = [.ref d] ∧ Deck H d c ∧ ∀ (n : Int) (H' : Hp3), 0 ≤ n → n < 10 ^ 12 → Drew d c H H' → Q (.int n) H'
theorem sc_next : FnScope ["_law_deck_here", "_law_cells", "_law_cell", "_law_number"] ["_law_deck_here"] (defScope (top 4)) := ⟨rfl, rfl, rfl, by decide +kernel, rfl, by decide +kernel, by decide +kernel⟩
theorem ok_next {f : Addr} {fd : FuncData} (g : G3 K mg "_law_next" (top 4) ["_law_deck_here"] f fd) (B : Bl mg) : FnOk3 P w K mg base 1 f fd ["_law_deck_here"] spNext := by
  refine fn3 g.fn sc_next (fun ts H Q h => ?_) (fun cdv A outer s H E ts H3 Q hr h => ?_)
  · obtain ⟨d, c, rfl, _⟩ := h; rfl
  · have hu30 := Room.u30 hr
    have hu31 := Room.u31 hr
    have hu1 := Room.u1 hr
    obtain ⟨d, c, rfl, D, k⟩ := h
    have hdc := D.ne
    obtain ⟨⟨l, a, sd, m, hd, s0, s1⟩, ns, hc, hne, hlen⟩ := D
    refine ⟨_, (ss3_cons (s3_set (i := 1) sc_next.nd (e3_dget hu1 (v3 0) c3_str))
        (ss3_cons (s3_if (t3_val (e3_dget hu1 (v3 0) c3_str)) (ss3_cons (s3_dput hu1 (v3 0) c3_str (e3_op o3_add (e3_dget hu1 (v3 0) c3_str) c3_int))
          (ss3_cons (s3_set (i := 2) sc_next.nd (e3_ix ix3 (v3 1) (e3_op o3_mod (e3_dget hu1 (v3 0) c3_str) (e3_callB c3_len rfl B.len_ bt_len (a3_cons (v3 1) a3_nil)))))
          (ss3_cons (s3_dput hu1 (v3 0) c3_str (e3_op o3_mod (e3_op o3_add (e3_op o3_add (e3_op o3_mul (e3_dget hu1 (v3 0) c3_str) c3_int) (v3 2)) (e3_dget hu1 (v3 0) c3_str)) c3_int))
          (ss3_cons (s3_set (i := 3) sc_next.nd (e3_op o3_mod (e3_op o3_add (e3_op o3_mul (e3_dget hu1 (v3 0) c3_str) (e3_dget hu1 (v3 0) c3_str)) (e3_op o3_mul c3_int (e3_dget hu1 (v3 0) c3_str))) c3_int))
          (ss3_one (s3_ret (e3_op o3_mod (e3_op o3_mul (v3 3) (e3_op o3_add (v3 3) c3_int)) c3_int))))))) ss3_nil)
        (ss3_cons (s3_set (i := 3) sc_next.nd (e3_op o3_mod (e3_ix ix3 (v3 1) c3_int) (e3_op o3_pow c3_int c3_int)))
        (ss3_cons (s3_asg (e3_op o3_fdiv (e3_ix ix3 (v3 1) c3_int) (e3_op o3_pow c3_int c3_int)) (g3_sub (v3 1) c3_int set3_list))
        (ss3_cons (s3_dput hu1 (v3 0) c3_str (e3_op o3_sub (e3_dget hu1 (v3 0) c3_str) c3_int))
        (ss3_cons (s3_if (PW3.pt (w3_and (t3_cmp (o3_eq hu30) (e3_dget hu1 (v3 0) c3_str) c3_int) (w3_and1 (t3_cmp o3_gt (e3_callB c3_len rfl B.len_ bt_len (a3_cons (v3 1) a3_nil)) c3_int)))) (ss3_cons (s3_expr (e3_bm PySem.F.plainAttrs_list PySem.F.slot_list_pop PySem.F.type_list_pop m3_popAt (v3 1) (a3_cons c3_int a3_nil)))
          (ss3_one (s3_dput hu1 (v3 0) c3_str c3_int))) ss3_nil)
        (ss3_one (s3_ret (v3 3))))))))), ?_⟩
    rw [show start3 ["_law_deck_here", "_law_cells", "_law_cell", "_law_number"] [T.ref d] = [some (T.ref d), none, none, none] from rfl]
    have hcd := Ne.symm hdc
    have hpos : (0 : Int) < ns.length := by
      cases ns with
      | nil => exact absurd rfl hne
      | cons n r => simp only [List.length_cons]; omega
    cases m with
    | true =>
      obtain ⟨z, hz⟩ := at_exI ns ((a + 1) % (ns.length : Int)) (Int.emod_nonneg _ (by omega)) (Int.emod_lt_of_pos _ hpos)
      walk_at "rd"
      clear hz
      generalize hs' : (sd * 48271 + z + (a + 1)) % 2147483647 = s'
      have b0 : 0 ≤ s' := by rw [← hs']; exact Int.emod_nonneg _ (by decide)
      have b1 : s' < 2147483647 := by rw [← hs']; exact Int.emod_lt_of_pos _ (by decide)
      generalize hn' : (s' * s' + 7919 * (a + 1)) % 2147483629 = n'
      have c0 : 0 ≤ n' := by rw [← hn']; exact Int.emod_nonneg _ (by decide)
      have c1 : n' < 2147483629 := by rw [← hn']; exact Int.emod_lt_of_pos _ (by decide)
      refine ⟨by decide, True.intro, .inr ⟨by decide, by decide⟩, by decide, by decide, .inl ⟨by omega, by omega⟩, .inl ⟨by decide, by decide⟩, by decide, .inl ⟨by omega, by omega⟩, by decide, ?_⟩
      refine Fin3.of Sub3.refl (k _ _ (Int.emod_nonneg _ (by decide)) (Int.lt_trans (Int.emod_lt_of_pos _ (by decide)) (by decide)) ⟨⟨⟨l, a + 1, s', true, up3_same, b0, by omega⟩, ns, by rw [up3_ne hcd]; exact hc, hne, hlen⟩, fun b h1 h2 => up3_ne h1⟩)
    | false =>
      cases ns with
      | nil => exact absurd rfl hne
      | cons n0 r =>
        have tn : (10 : Int) ^ Int.toNat 12 = 1000000000000 := by decide
        have fin : ∀ (l' : Int) (ms : List Int), ms ≠ [] → ms.length ≤ 64 → Fin3 Q (T.int (n0 % 1000000000000)) (up3 (up3 H3 c (O3.lst (ms.map T.int))) d (O3.dct (dkL (T.ref c) (T.int l') (T.int a) (T.int sd) (T.bl false)))) := fun l' ms h1 h2 => by
          refine Fin3.of Sub3.refl (k _ _ (Int.emod_nonneg _ (by decide)) (Int.lt_of_lt_of_le (Int.emod_lt_of_pos _ (by decide)) (by decide)) ⟨⟨⟨l', a, sd, false, up3_same, s0, s1⟩, ms, by rw [up3_ne hcd, up3_same], h1, h2⟩, fun b h1 h2 => by rw [up3_ne h1, up3_ne h2]⟩)
        simp only [List.map_cons] at hc
        walk_at "rd"
        refine ⟨⟨by decide, by decide, by decide⟩, by decide, ⟨by decide, by decide, by decide⟩, ⟨by decide, by decide +kernel⟩, by decide, ?_⟩
        split
        · split
          · rename_i h1 h2
            refine ⟨⟨True.intro, True.intro⟩, by decide, ?_⟩
            have e : up3 (up3 (up3 (up3 H3 c (O3.lst (T.int (n0 / 1000000000000) :: List.map T.int r))) d (O3.dct (dkL (T.ref c) (T.int (l - 1)) (T.int a) (T.int sd) (T.bl false)))) c (O3.lst (r.map T.int))) d (O3.dct (dkL (T.ref c) (T.int 12) (T.int a) (T.int sd) (T.bl false))) = up3 (up3 H3 c (O3.lst (r.map T.int))) d (O3.dct (dkL (T.ref c) (T.int 12) (T.int a) (T.int sd) (T.bl false))) := by
              funext b
              by_cases h1 : b = d
              · subst h1; rw [up3_same, up3_same]
              · rw [up3_ne h1, up3_ne h1]
                by_cases h2 : b = c
                · subst h2; rw [up3_same, up3_same]
                · rw [up3_ne h2, up3_ne h1, up3_ne h2, up3_ne h2]
            rw [e]
            exact fin 12 r (by rintro rfl; simp at h2) (by simp at hlen; omega)
          · exact fin (l - 1) (n0 / 1000000000000 :: r) (by simp) (by simpa using hlen)
        · exact fin (l - 1) (n0 / 1000000000000 :: r) (by simp) (by simpa using hlen)
end
end M

set_option Elab.async false
set_option linter.all false
set_option maxRecDepth 100000
set_option maxHeartbeats 4000000
namespace M
open PySem PySem.Spec PyProof.Rows L2 L3
local macro_rules | `(tactic| walk_at "rd") => `(tactic| try simp only [*, ne_eq, not_false_eq_true, up3_ne, tSeq3, tAsg3, tC3, gName3, tFor3, tCons3, tNil3, tRet3, tRetN3, tOp3, tIfS3, tAnd3, tOr3, tNot3, tCB3, tBM3, tDrop3, tNext3, gSub3, tCall3, tTup3, tLst3, tIf3, tSl3, tNoPart3, tYes3, q_vq, q_var, q_bq, q_test, q_chain, q_andV, q_orV, q_notV, q_oq, q_I, q_I0, q_addI, q_addS, q_addT, q_addL, q_catH, q_eqI, q_eqS, q_eqB, q_eqT, q_eqL, q_eqH, q_inT, q_inS, q_inL, q_inH, q_ixL, q_ixH, q_ixT, q_ixS, q_setL, q_stH, q_pq, q_part, q_slL, q_slH, q_slHr, q_slT, q_slS, q_D, q_dgH, q_dput, q_dpH, q_dpO, q_lenL, q_lnH, q_lenT, q_lenS, q_listL, q_liH, q_listT, q_tupL, q_tpH, q_tupT, q_intI, q_intB, q_strI, q_sumL, q_smH, q_isi, q_tyS, q_tyL, q_tyH, q_app, q_apH, q_ext, q_exH, q_pop, q_poH, q_joinL, q_joH, q_joinT, q_index, q_idH, q_rng, q_rg1, q_rg2, q_iTup, q_tuq, q_iList, q_liq, q_liO, q_gNil, q_gCons, q_gTup, up3_same, lk_c, lk_l, lk_a, lk_s, lk_m, pt_l, pt_a, pt_s, dk_len, cut_31, tDisp3, q_prs0, q_prs1, dk_mrg, ix_z, at0, at1, at2, at3, List.eraseIdx_cons_zero, Int.toNat_natCast, up3_up3, List.length_map, List.length_cons, List.length_nil, Nat.zero_add, Bool.false_eq_true, if_false, if_true, List.getElem?_cons_zero, List.getElem?_cons_succ, List.set_cons_zero, List.set_cons_succ])
section
variable {P : Program} {w : World} {K : PySem.W.Frag} {mg : Str → Option Value} {base : Heap}
def spDeck : Sp3 := fun ts H Q => ∃ (a : Addr) (ns : List Int), ts = [.ref a] ∧ H a = some (.rol (ns.map T.int)) ∧ ns.length ≤ 63 ∧ ∀ (d c : Addr) (H' : Hp3), Sub3 H H' → H d = none → H c = none → Deck H' d c → Q (.ref d) H'
theorem sc_deck : FnScope ["_law_script", "_law_cells", "_law_mixed"] ["_law_script"] (defScope (top 3)) := ⟨rfl, rfl, rfl, by decide +kernel, rfl, by decide +kernel, by decide +kernel⟩
theorem ok_deck {f : Addr} {fd : FuncData} (g : G3 K mg "_law_deck" (top 3) ["_law_script"] f fd) (B : Bl mg) : FnOk3 P w K mg base 1 f fd ["_law_script"] spDeck := by
  refine fn3 g.fn sc_deck (fun ts H Q h => ?_) (fun cdv A outer s H E ts H3 Q hr h => ?_)
  · obtain ⟨a, ns, rfl, _⟩ := h; rfl
  · have hu30 := Room.u30 hr
    have hu31 := Room.u31 hr
    have hu1 := Room.u1 hr
    obtain ⟨a, ns, rfl, ha, hlen, k⟩ := h
    refine ⟨_, (ss3_cons (s3_set (i := 1) sc_deck.nd (e3_op o3_add (e3_slice (v3 0) po3_none (po3_some c3_int)) (e3_lst (a3_cons c3_int a3_nil))))
        (ss3_cons (s3_set (i := 2) sc_deck.nd (e3_cmp (o3_eq hu30) (e3_op o3_mod (e3_ix ix3 (v3 1) c3_int) c3_int) c3_int))
        (ss3_cons (s3_asg (e3_op o3_fdiv (e3_ix ix3 (v3 1) c3_int) c3_int) (g3_sub (v3 1) c3_int set3_list))
        (ss3_one (s3_ret (e3_disp (ps3_cons (v3 1) (ps3_cons c3_int (ps3_cons c3_int (ps3_cons (e3_op o3_add c3_int (e3_op o3_mod (e3_callB (c3_sum rfl) rfl B.sum_ bt_sum (a3_cons (v3 1) a3_nil)) c3_int)) (ps3_cons (v3 2) ps3_nil))))))))))), ?_⟩
    rw [show start3 ["_law_script", "_law_cells", "_law_mixed"] [T.ref a] = [some (T.ref a), none, none] from rfl]
    have hcut : cut3 (ns.map T.int) none (some 63) = ns.map T.int := by
      rw [show (63 : Int) = ((63 : Nat) : Int) from rfl, cut_to, List.take_of_length_le (by simpa using hlen)]
    obtain ⟨m0, mr, hm⟩ : ∃ m0 mr, ns ++ [0] = m0 :: mr := by cases ns <;> exact ⟨_, _, rfl⟩
    have hm' : ns.map T.int ++ [T.int 0] = T.int m0 :: mr.map T.int := by
      have := congrArg (List.map T.int) hm
      simpa using this
    have hml : mr.length + 1 = ns.length + 1 := by have := congrArg List.length hm; simpa using this.symm
    walk_at "rd"
    intro p hp
    refine ⟨by decide, fun p1 hp1 => ?_⟩
    obtain ⟨n1, hp1⟩ := up3_none hp1
    have n1' := Ne.symm n1
    walk_at "rd"
    refine ⟨?_, fun p2 hp2 => ?_⟩
    · have : sizeLine = 16777216 := rfl
      omega
    obtain ⟨n2, hp2⟩ := up3_none hp2
    obtain ⟨n3, hp2⟩ := up3_none hp2
    walk_at "rd"
    refine ⟨by decide, ⟨by decide, by decide +kernel⟩, fun p3 hp3 => ?_⟩
    obtain ⟨n4, hp3⟩ := up3_none hp3
    obtain ⟨n5, hp3⟩ := up3_none hp3
    obtain ⟨n6, hp3⟩ := up3_none hp3
    have n4' := Ne.symm n4
    have hi : ints3 (T.int (m0 / 2) :: List.map T.int mr) = some ((m0 / 2) :: mr) := ints3_map ((m0 / 2) :: mr)
    walk_at "rd"
    refine ⟨by decide, True.intro, by decide, ?_⟩
    have b0 := Int.emod_nonneg ((m0 / 2) :: mr).sum (show (2147483646 : Int) ≠ 0 by decide)
    have b1 := Int.emod_lt_of_pos ((m0 / 2) :: mr).sum (show (0 : Int) < 2147483646 by decide)
    refine Fin3.of Sub3.refl (k p3 p2 _ ?_ hp3 hp2 ⟨⟨12, 0, _, _, up3_same, by omega, by omega⟩, (m0 / 2) :: mr, ?_, by simp, by simp only [List.length_cons]; omega⟩)
    · intro b o hb
      rw [up3_ne (ne3n hb hp3), up3_ne (ne3n hb hp2), up3_ne (ne3n hb hp1), up3_ne (ne3n hb hp)]
      exact hb
    · rw [up3_ne n4', up3_same]
      rfl
def spGreat : Sp3 := fun ts H Q => ∃ d c, ts = [.ref d] ∧ Deck H d c ∧ ∀ (n : Int) (H' : Hp3), 0 ≤ n → n < 10 ^ 60 → Drew d c H H' → Q (.int n) H'
theorem sc_great : FnScope ["_law_deck_here", "_law_total", "_law_k"] ["_law_deck_here"] (defScope (top 5)) := ⟨rfl, rfl, rfl, by decide +kernel, rfl, by decide +kernel, by decide +kernel⟩
theorem ok_great {f : Addr} {fd : FuncData} (g : G3 K mg "_law_great" (top 5) ["_law_deck_here"] f fd) (B : Bl mg) {f_next : Addr} {fd_next : FuncData} (g_next : G3 K mg "_law_next" (top 4) ["_law_deck_here"] f_next fd_next) (F_next : FnOk3 P w K mg base 1 f_next fd_next ["_law_deck_here"] spNext) : FnOk3 P w K mg base 2 f fd ["_law_deck_here"] spGreat := by
  refine fn3 g.fn sc_great (fun ts H Q h => ?_) (fun cdv A outer s H E ts H3 Q hr h => ?_)
  · obtain ⟨d, c, rfl, _⟩ := h; rfl
  · have hu30 := Room.u30 hr
    have hu31 := Room.u31 hr
    have hu1 := Room.u1 hr
    obtain ⟨d, c, rfl, D, k⟩ := h
    refine ⟨_, (ss3_cons (s3_set (i := 1) sc_great.nd c3_int)
        (ss3_cons (s3_for PassesOwn.never rfl (i3_range1 rfl B.range_ (a3_cons c3_int a3_nil)) (g3_name (i := 2) sc_great.nd) (ss3_one (s3_set (i := 1) sc_great.nd (e3_op o3_add (e3_op o3_mul (v3 1) (e3_op o3_pow c3_int c3_int)) (e3_call F_next (hr.mono (by decide)) rfl g_next.m g_next.fn.kp g_next.b (a3_cons (v3 0) a3_nil))))))
        (ss3_one (s3_ret (v3 1))))), ?_⟩
    rw [show start3 ["_law_deck_here", "_law_total", "_law_k"] [T.ref d] = [some (T.ref d), none, none] from rfl]
    walk_at "rd"
    refine ⟨True.intro, by decide, by decide, ?_⟩
    refine iter_go (fun r σ H' => ∃ (j : Nat) (t : Int) (v : Option T), σ = [some (.ref d), some (.int t), v] ∧ j + r.length = 5 ∧ 0 ≤ t ∧ t < 10 ^ (12 * j) ∧ Drew d c H3 H') ⟨0, 0, none, rfl, rfl, by decide, by decide, D.refl⟩ ?_ ?_
    · rintro σ H' ⟨j, t, v, rfl, hj, t0, t1, hD⟩
      refine ⟨trivial, ?_⟩
      walk_at "rd"
      simp only [List.length_nil, Nat.add_zero] at hj
      subst hj
      exact Fin3.of Sub3.refl (k t H' t0 t1 hD)
    · rintro x r σ H' N ⟨j, t, v, rfl, hj, t0, t1, hD⟩ hN
      refine ⟨trivial, ?_⟩
      have tn : (10 : Int) ^ Int.toNat 12 = 1000000000000 := by decide
      walk_at "rd"
      refine ⟨⟨by decide, by decide, by decide⟩, .inr ⟨by decide, by decide⟩, d, c, rfl, hD.deck, fun n H2 n0 n1 hD2 => ?_⟩
      walk_at "rd"
      refine hN _ _ ⟨j + 1, t * 1000000000000 + n, _, rfl, by simp only [List.length_cons] at hj; omega, by omega, ?_, hD.trans hD2⟩
      rw [show 12 * (j + 1) = 12 * j + 12 by omega, Int.pow_add]
      generalize (10 : Int) ^ (12 * j) = X at t1
      have : (10 : Int) ^ 12 = 1000000000000 := by decide
      omega
end
end M

set_option Elab.async false
set_option linter.all false
set_option maxRecDepth 100000
set_option maxHeartbeats 4000000
namespace M
open PySem PySem.Spec PyProof.Rows L2 L3
local macro_rules | `(tactic| walk_at "rd") => `(tactic| try simp only [*, ne_eq, not_false_eq_true, up3_ne, tSeq3, tAsg3, tC3, gName3, tFor3, tCons3, tNil3, tRet3, tRetN3, tOp3, tIfS3, tAnd3, tOr3, tNot3, tCB3, tBM3, tDrop3, tNext3, gSub3, tCall3, tTup3, tLst3, tIf3, tSl3, tNoPart3, tYes3, q_vq, q_var, q_bq, q_test, q_chain, q_andV, q_orV, q_notV, q_oq, q_I, q_I0, q_addI, q_addS, q_addT, q_addL, q_catH, q_eqI, q_eqS, q_eqB, q_eqT, q_eqL, q_eqH, q_inT, q_inS, q_inL, q_inH, q_ixL, q_ixH, q_ixT, q_ixS, q_setL, q_stH, q_pq, q_part, q_slL, q_slH, q_slHr, q_slT, q_slS, q_D, q_dgH, q_dput, q_dpH, q_dpO, q_lenL, q_lnH, q_lenT, q_lenS, q_listL, q_liH, q_listT, q_tupL, q_tpH, q_tupT, q_intI, q_intB, q_strI, q_sumL, q_smH, q_isi, q_tyS, q_tyL, q_tyH, q_app, q_apH, q_ext, q_exH, q_pop, q_poH, q_joinL, q_joH, q_joinT, q_index, q_idH, q_rng, q_rg1, q_rg2, q_iTup, q_tuq, q_iList, q_liq, q_liO, q_gNil, q_gCons, q_gTup, up3_same, lk_c, lk_l, lk_a, lk_s, lk_m, pt_l, pt_a, pt_s, dk_len, cut_31, tDisp3, q_prs0, q_prs1, dk_mrg, ix_z, at0, at1, at2, at3, List.eraseIdx_cons_zero, Int.toNat_natCast, up3_up3, List.length_map, List.length_cons, List.length_nil, Nat.zero_add, Bool.false_eq_true, if_false, if_true, List.getElem?_cons_zero, List.getElem?_cons_succ, List.set_cons_zero, List.set_cons_succ])
section
variable {P : Program} {w : World} {K : PySem.W.Frag} {mg : Str → Option Value} {base : Heap}
def spWord : Sp3 := fun ts H Q => ∃ (d c p : Addr) (ws : List Str), ts = [.ref d, .ref p] ∧ Deck H d c ∧ p ≠ d ∧ p ≠ c ∧ H p = some (.lst (ws.map T.str)) ∧ ws.length ≤ 7 ∧ (∀ x ∈ ws, isNm x) ∧ ∀ (x : Str) (H' : Hp3), isNm x → x ∉ ws → Drew d c H H' → Q (.str x) H'
def spLength : Sp3 := fun ts H Q => ∃ d c, ts = [.ref d] ∧ Deck H d c ∧ ∀ (n : Int) (H' : Hp3), 1 ≤ n → n < 10 ^ 60 → Drew d c H H' → Q (.int n) H'
theorem sc_length : FnScope ["_law_deck_here", "_law_way"] ["_law_deck_here"] (defScope (top 8)) := ⟨rfl, rfl, rfl, by decide +kernel, rfl, by decide +kernel, by decide +kernel⟩
theorem ok_length {f : Addr} {fd : FuncData} (g : G3 K mg "_law_length" (top 8) ["_law_deck_here"] f fd) (B : Bl mg) {f_great : Addr} {fd_great : FuncData} (g_great : G3 K mg "_law_great" (top 5) ["_law_deck_here"] f_great fd_great) (F_great : FnOk3 P w K mg base 2 f_great fd_great ["_law_deck_here"] spGreat) {f_next : Addr} {fd_next : FuncData} (g_next : G3 K mg "_law_next" (top 4) ["_law_deck_here"] f_next fd_next) (F_next : FnOk3 P w K mg base 1 f_next fd_next ["_law_deck_here"] spNext) : FnOk3 P w K mg base 3 f fd ["_law_deck_here"] spLength := by
  refine fn3 g.fn sc_length (fun ts H Q h => ?_) (fun cdv A outer s H E ts H3 Q hr h => ?_)
  · obtain ⟨d, c, rfl, _⟩ := h; rfl
  · have hu30 := Room.u30 hr
    have hu31 := Room.u31 hr
    have hu1 := Room.u1 hr
    obtain ⟨d, c, rfl, D, k⟩ := h
    refine ⟨_, (ss3_cons (s3_set (i := 1) sc_length.nd (e3_op o3_mod (e3_call F_next (hr.mono (by decide)) rfl g_next.m g_next.fn.kp g_next.b (a3_cons (v3 0) a3_nil)) c3_int))
        (ss3_cons (s3_if (t3_cmp (o3_eq hu30) (v3 1) c3_int) (ss3_one (s3_ret (e3_op o3_add c3_int (e3_op o3_mod (e3_call F_next (hr.mono (by decide)) rfl g_next.m g_next.fn.kp g_next.b (a3_cons (v3 0) a3_nil)) c3_int)))) ss3_nil)
        (ss3_cons (s3_if (t3_cmp (o3_eq hu30) (v3 1) c3_int) (ss3_one (s3_ret (e3_op o3_sub (e3_op o3_sub (e3_op o3_pow c3_int c3_int) c3_int) (e3_op o3_mod (e3_call F_next (hr.mono (by decide)) rfl g_next.m g_next.fn.kp g_next.b (a3_cons (v3 0) a3_nil)) c3_int)))) ss3_nil)
        (ss3_one (s3_ret (e3_op o3_add c3_int (e3_op o3_mod (e3_call F_great (hr.mono (by decide)) rfl g_great.m g_great.fn.kp g_great.b (a3_cons (v3 0) a3_nil)) (e3_op o3_sub (e3_op o3_pow c3_int c3_int) c3_int)))))))), ?_⟩
    rw [show start3 ["_law_deck_here", "_law_way"] [T.ref d] = [some (T.ref d), none] from rfl]
    have t60 : (10 : Int) ^ Int.toNat 60 = 1000000000000000000000000000000000000000000000000000000000000 := by decide
    have t60' : (10 : Int) ^ 60 = 1000000000000000000000000000000000000000000000000000000000000 := by decide
    rw [t60'] at k
    walk_at "rd"
    refine ⟨d, c, rfl, D, fun n1 H1 n10 n11 hD1 => ?_⟩
    walk_at "rd"
    refine ⟨by decide, ?_⟩
    split
    · refine ⟨d, c, rfl, hD1.deck, fun n2 H2 n20 n21 hD2 => ?_⟩
      walk_at "rd"
      refine ⟨by decide, ?_⟩
      exact Fin3.of Sub3.refl (k _ _ (by omega) (by omega) (hD1.trans hD2))
    · split
      · refine ⟨⟨by decide, by decide, by decide⟩, d, c, rfl, hD1.deck, fun n2 H2 n20 n21 hD2 => ?_⟩
        walk_at "rd"
        refine ⟨by decide, ?_⟩
        exact Fin3.of Sub3.refl (k _ _ (by omega) (by omega) (hD1.trans hD2))
      · refine ⟨d, c, rfl, hD1.deck, fun n2 H2 n20 n21 hD2 => ?_⟩
        walk_at "rd"
        refine ⟨⟨by decide, by decide, by decide⟩, by decide, ?_⟩
        exact Fin3.of Sub3.refl (k _ _ (by omega) (by omega) (hD1.trans hD2))
def spWords : Sp3 := fun ts H Q => ∃ (d c : Addr) (n : Int), ts = [.ref d, .int n] ∧ Deck H d c ∧ 0 ≤ n ∧ n ≤ 8 ∧ ∀ (p : Addr) (ws : List Str) (H' : Hp3), H p = none → H' p = some (.lst (ws.map T.str)) → (ws.length : Int) = n → Nms ws → Deck H' d c → (∀ b, b ≠ d → b ≠ c → b ≠ p → H' b = H b) → Q (.ref p) H'
theorem sc_words : FnScope ["_law_deck_here", "_law_many", "_law_words_here", "_law_k"] ["_law_deck_here", "_law_many"] (defScope (top 7)) := ⟨rfl, rfl, rfl, by decide +kernel, rfl, by decide +kernel, by decide +kernel⟩
theorem ok_words {f : Addr} {fd : FuncData} (g : G3 K mg "_law_words" (top 7) ["_law_deck_here", "_law_many"] f fd) (B : Bl mg) {f_word : Addr} {fd_word : FuncData} (g_word : G3 K mg "_law_word" (top 6) ["_law_deck_here", "_law_words_here"] f_word fd_word) (F_word : FnOk3 P w K mg base 2 f_word fd_word ["_law_deck_here", "_law_words_here"] spWord) : FnOk3 P w K mg base 3 f fd ["_law_deck_here", "_law_many"] spWords := by
  refine fn3 g.fn sc_words (fun ts H Q h => ?_) (fun cdv A outer s H E ts H3 Q hr h => ?_)
  · obtain ⟨d, c, n, rfl, _⟩ := h; rfl
  · have hu30 := Room.u30 hr
    have hu31 := Room.u31 hr
    have hu1 := Room.u1 hr
    obtain ⟨d, c, n, rfl, D, n0, n8, k⟩ := h
    refine ⟨_, (ss3_cons (s3_set (i := 2) sc_words.nd (e3_lst a3_nil))
        (ss3_cons (s3_for PassesOwn.never rfl (i3_range1 rfl B.range_ (a3_cons (v3 1) a3_nil)) (g3_name (i := 3) sc_words.nd) (ss3_one (s3_expr (e3_bm PySem.F.plainAttrs_list PySem.F.slot_list_append PySem.F.type_list_append m3_append (v3 2) (a3_cons (e3_call F_word (hr.mono (by decide)) rfl g_word.m g_word.fn.kp g_word.b (a3_cons (v3 0) (a3_cons (v3 2) a3_nil))) a3_nil)))))
        (ss3_one (s3_ret (v3 2))))), ?_⟩
    rw [show start3 ["_law_deck_here", "_law_many", "_law_words_here", "_law_k"] [T.ref d, T.int n] = [some (T.ref d), some (T.int n), none, none] from rfl]
    walk_at "rd"
    refine ⟨by decide, fun p hp => ?_⟩
    have hpd : p ≠ d := fun e => by obtain ⟨⟨_, _, _, _, h, _⟩, _⟩ := D; rw [← e, hp] at h; cases h
    have hpc : p ≠ c := fun e => by obtain ⟨_, _, h, _⟩ := D; rw [← e, hp] at h; cases h
    refine ⟨True.intro, by omega, by omega, ?_⟩
    refine iter_go (fun r σ H' => ∃ (ws : List Str) (v : Option T), σ = [some (.ref d), some (.int n), some (.ref p), v] ∧ ws.length + r.length = n.toNat ∧ Nms ws ∧ H' p = some (.lst (ws.map T.str)) ∧ Deck H' d c ∧ ∀ b, b ≠ d → b ≠ c → b ≠ p → H' b = H3 b)
      ⟨[], none, rfl, by simp [rng3], .nil, up3_same, ?_, fun b h1 h2 h3 => up3_ne h3⟩ ?_ ?_
    · obtain ⟨⟨l, a, sd, m, hd, s0, s1⟩, ns, hc, hne, hlen⟩ := D
      exact ⟨⟨l, a, sd, m, by rw [up3_ne (Ne.symm hpd)]; exact hd, s0, s1⟩, ns, by rw [up3_ne (Ne.symm hpc)]; exact hc, hne, hlen⟩
    · rintro σ H' ⟨ws, v, rfl, hl, hn, hH, hD, hoff⟩
      refine ⟨trivial, ?_⟩
      walk_at "rd"
      simp only [List.length_nil, Nat.add_zero] at hl
      exact Fin3.of Sub3.refl (k p ws H' hp hH (by omega) hn hD hoff)
    · rintro x r σ H' N ⟨ws, v, rfl, hl, hn, hH, hD, hoff⟩ hN
      refine ⟨trivial, ?_⟩
      simp only [List.length_cons] at hl
      walk_at "rd"
      refine ⟨⟨True.intro, True.intro⟩, d, c, p, ws, rfl, hD, hpd, hpc, hH, by omega, hn.nm, fun x H2 hx hxw hD2 => ?_⟩
      have hH2 : H2 p = some (.lst (ws.map T.str)) := by rw [hD2.off p hpd hpc]; exact hH
      walk_at "rd"
      refine ⟨by have : sizeLine = 16777216 := rfl; omega, ?_⟩
      refine hN _ _ ⟨ws ++ [x], _, rfl, by simp only [List.length_append, List.length_singleton]; omega, hn.snoc hx hxw, ?_, ?_, ?_⟩
      · rw [up3_same, List.map_append]; rfl
      · obtain ⟨⟨l, a, sd, m, hd, s0, s1⟩, ns, hc, hne, hlen⟩ := hD2.deck
        exact ⟨⟨l, a, sd, m, by rw [up3_ne (Ne.symm hpd)]; exact hd, s0, s1⟩, ns, by rw [up3_ne (Ne.symm hpc)]; exact hc, hne, hlen⟩
      · intro b h1 h2 h3
        rw [up3_ne h3, hD2.off b h1 h2, hoff b h1 h2 h3]
def spTask : Sp3 := fun ts H Q => ∃ (d c p : Addr) (nm : Str) (ws : List Str), ts = [.ref d, .str nm, .ref p] ∧ Deck H d c ∧ p ≠ d ∧ p ≠ c ∧ H p = some (.lst (ws.map T.str)) ∧ 1 ≤ ws.length ∧ Nms ws ∧ isNm nm ∧ ∀ (t : Str × Int × List Str) (H' : Hp3), t.1 = nm → tkOk t → Drew d c H H' → Q (tkT t) H'
theorem sc_task : FnScope ["_law_deck_here", "_law_name", "_law_some", "_law_kinds", "_law_k", "_law_kind"] ["_law_deck_here", "_law_name", "_law_some"] (defScope (top 9)) := ⟨rfl, rfl, rfl, by decide +kernel, rfl, by decide +kernel, by decide +kernel⟩
theorem ok_task {f : Addr} {fd : FuncData} (g : G3 K mg "_law_task" (top 9) ["_law_deck_here", "_law_name", "_law_some"] f fd) (B : Bl mg) {f_length : Addr} {fd_length : FuncData} (g_length : G3 K mg "_law_length" (top 8) ["_law_deck_here"] f_length fd_length) (F_length : FnOk3 P w K mg base 3 f_length fd_length ["_law_deck_here"] spLength) {f_next : Addr} {fd_next : FuncData} (g_next : G3 K mg "_law_next" (top 4) ["_law_deck_here"] f_next fd_next) (F_next : FnOk3 P w K mg base 1 f_next fd_next ["_law_deck_here"] spNext) : FnOk3 P w K mg base 4 f fd ["_law_deck_here", "_law_name", "_law_some"] spTask := by
  refine fn3 g.fn sc_task (fun ts H Q h => ?_) (fun cdv A outer s H E ts H3 Q hr h => ?_)
  · obtain ⟨d, c, p, nm, ws, rfl, _⟩ := h; rfl
  · have hu30 := Room.u30 hr
    have hu31 := Room.u31 hr
    have hu1 := Room.u1 hr
    obtain ⟨d, c, p, nm, ws, rfl, D, hpd, hpc, hp, hw1, hws, hnm, k⟩ := h
    refine ⟨_, (ss3_cons (s3_set (i := 3) sc_task.nd (e3_lst a3_nil))
        (ss3_cons (s3_for PassesOwn.never rfl (i3_range1 rfl B.range_ (a3_cons (e3_op o3_mod (e3_call F_next (hr.mono (by decide)) rfl g_next.m g_next.fn.kp g_next.b (a3_cons (v3 0) a3_nil)) c3_int) a3_nil)) (g3_name (i := 4) sc_task.nd) (ss3_cons (s3_set (i := 5) sc_task.nd (e3_ix ix3 (v3 2) (e3_op o3_mod (e3_call F_next (hr.mono (by decide)) rfl g_next.m g_next.fn.kp g_next.b (a3_cons (v3 0) a3_nil)) (e3_callB c3_len rfl B.len_ bt_len (a3_cons (v3 2) a3_nil)))))
          (ss3_one (s3_if (t3_cmp (o3_notin hu31) (v3 5) (v3 3) rfl) (ss3_one (s3_expr (e3_bm PySem.F.plainAttrs_list PySem.F.slot_list_append PySem.F.type_list_append m3_append (v3 3) (a3_cons (v3 5) a3_nil)))) ss3_nil))))
        (ss3_one (s3_ret (e3_tup (a3_cons (v3 1) (a3_cons (e3_call F_length (hr.mono (by decide)) rfl g_length.m g_length.fn.kp g_length.b (a3_cons (v3 0) a3_nil)) (a3_cons (e3_callTy c3_tuple rfl B.tuple_ bt_tuple (a3_cons (v3 3) a3_nil)) a3_nil)))))))), ?_⟩
    rw [show start3 ["_law_deck_here", "_law_name", "_law_some", "_law_kinds", "_law_k", "_law_kind"] [T.ref d, T.str nm, T.ref p] = [some (T.ref d), some (T.str nm), some (T.ref p), none, none, none] from rfl]
    walk_at "rd"
    refine ⟨by decide, fun q hq => ?_⟩
    have hqd : q ≠ d := fun e => by obtain ⟨⟨_, _, _, _, h, _⟩, _⟩ := D; rw [← e, hq] at h; cases h
    have hqc : q ≠ c := fun e => by obtain ⟨_, _, h, _⟩ := D; rw [← e, hq] at h; cases h
    have hqp : q ≠ p := fun e => by rw [← e, hq] at hp; cases hp
    have D0 : Deck (up3 H3 q (O3.lst [])) d c := by
      obtain ⟨⟨l, a, sd, m, hd, s0, s1⟩, ns, hc, hne, hlen⟩ := D
      exact ⟨⟨l, a, sd, m, by rw [up3_ne (Ne.symm hqd)]; exact hd, s0, s1⟩, ns, by rw [up3_ne (Ne.symm hqc)]; exact hc, hne, hlen⟩
    refine ⟨d, c, rfl, D0, fun n1 H1 n10 n11 hD1 => ?_⟩
    walk_at "rd"
    refine ⟨by decide, True.intro, by omega, by omega, ?_⟩
    refine iter_go (fun r σ H' => ∃ (ks : List Str) (v v' : Option T), σ = [some (.ref d), some (.str nm), some (.ref p), some (.ref q), v, v'] ∧ ks.length + r.length ≤ 4 ∧ Nms ks ∧ H' q = some (.lst (ks.map T.str)) ∧ Deck H' d c ∧ ∀ b, b ≠ d → b ≠ c → b ≠ q → H' b = H3 b)
      ⟨[], none, none, rfl, by simp [rng3]; omega, .nil, by rw [hD1.off q hqd hqc, up3_same]; rfl, hD1.deck, fun b h1 h2 h3 => by rw [hD1.off b h1 h2, up3_ne h3]⟩ ?_ ?_
    · rintro σ H' ⟨ks, v, v', rfl, hl, hn, hH, hD, hoff⟩
      refine ⟨trivial, ?_⟩
      walk_at "rd"
      refine ⟨d, c, rfl, hD, fun n2 H2 n20 n21 hD2 => ?_⟩
      have hH2 : H2 q = some (.lst (ks.map T.str)) := by rw [hD2.off q hqd hqc]; exact hH
      walk_at "rd"
      refine ⟨by decide, ?_⟩
      have hfin : Drew d c H3 (fun b => if b = q then none else H2 b) := by
        refine ⟨?_, fun b h1 h2 => ?_⟩
        · obtain ⟨⟨l, a, sd, m, hd, s0, s1⟩, ns, hc, hne, hlen⟩ := hD2.deck
          exact ⟨⟨l, a, sd, m, by simp only [Ne.symm hqd, if_false]; exact hd, s0, s1⟩, ns, by simp only [Ne.symm hqc, if_false]; exact hc, hne, hlen⟩
        · by_cases h3 : b = q
          · subst h3; simp only [if_true]; exact hq.symm
          · simp only [h3, if_false]; rw [hD2.off b h1 h2, hoff b h1 h2 h3]
      refine Fin3.of (H' := fun b => if b = q then none else H2 b) (fun b o hb => ?_) (k (nm, n2, ks) _ rfl ⟨hnm, n20, n21, hn, by simp only [List.length_nil] at hl; show ks.length ≤ 4; omega⟩ hfin)
      by_cases h3 : b = q
      · simp only [h3, if_true] at hb; cases hb
      · simpa only [h3, if_false] using hb
    · rintro x r σ H' N ⟨ks, v, v', rfl, hl, hn, hH, hD, hoff⟩ hN
      refine ⟨trivial, ?_⟩
      simp only [List.length_cons] at hl
      have hp' : H' p = some (.lst (ws.map T.str)) := by rw [hoff p hpd hpc (Ne.symm hqp)]; exact hp
      walk_at "rd"
      refine ⟨d, c, rfl, hD, fun n2 H2 n20 n21 hD2 => ?_⟩
      have hH2 : H2 q = some (.lst (ks.map T.str)) := by rw [hD2.off q hqd hqc]; exact hH
      have hp2 : H2 p = some (.lst (ws.map T.str)) := by rw [hD2.off p hpd hpc]; exact hp'
      have hpos : (0 : Int) < ws.length := by omega
      obtain ⟨z, hzm, hz⟩ := at_ex ws (n2 % (ws.length : Int)) (Int.emod_nonneg _ (by omega)) (Int.emod_lt_of_pos _ hpos)
      have hz' : atI (ws.map T.str) (n2 % (ws.length : Int)) = some (T.str z) := by rw [at_map, hz]; rfl
      walk_at "rd"
      refine ⟨True.intro, pl_str z, pl_strs ks, ?_⟩
      have off2 : ∀ b, b ≠ d → b ≠ c → b ≠ q → H2 b = H3 b := fun b h1 h2 h3 => by rw [hD2.off b h1 h2, hoff b h1 h2 h3]
      split
      · rename_i hm
        have hzk : z ∉ ks := (memN str_inj).mp hm
        walk_at "rd"
        refine ⟨⟨True.intro, True.intro⟩, by have : sizeLine = 16777216 := rfl; omega, ?_⟩
        refine hN _ _ ⟨ks ++ [z], _, _, rfl, by simp only [List.length_append, List.length_singleton]; omega, hn.snoc (hws.nm z hzm) hzk, ?_, ?_, ?_⟩
        · rw [up3_same, List.map_append]; rfl
        · obtain ⟨⟨l, a, sd, m, hd, s0, s1⟩, ns, hc, hne, hlen⟩ := hD2.deck
          exact ⟨⟨l, a, sd, m, by rw [up3_ne (Ne.symm hqd)]; exact hd, s0, s1⟩, ns, by rw [up3_ne (Ne.symm hqc)]; exact hc, hne, hlen⟩
        · intro b h1 h2 h3
          rw [up3_ne h3, off2 b h1 h2 h3]
      · exact hN _ _ ⟨ks, _, _, rfl, by omega, hn, hH2, hD2.deck, off2⟩
end
end M

set_option Elab.async false
set_option linter.all false
set_option maxRecDepth 100000
set_option maxHeartbeats 4000000
namespace M
open PySem PySem.Spec PyProof.Rows L2 L3
local macro_rules | `(tactic| walk_at "rd") => `(tactic| try simp only [*, ne_eq, not_false_eq_true, up3_ne, tSeq3, tAsg3, tC3, gName3, tFor3, tCons3, tNil3, tRet3, tRetN3, tOp3, tIfS3, tAnd3, tOr3, tNot3, tCB3, tBM3, tDrop3, tNext3, gSub3, tCall3, tTup3, tLst3, tIf3, tSl3, tNoPart3, tYes3, q_vq, q_var, q_bq, q_test, q_chain, q_andV, q_orV, q_notV, q_oq, q_I, q_I0, q_addI, q_addS, q_addT, q_addL, q_catH, q_eqI, q_eqS, q_eqB, q_eqT, q_eqL, q_eqH, q_inT, q_inS, q_inL, q_inH, q_ixL, q_ixH, q_ixT, q_ixS, q_setL, q_stH, q_pq, q_part, q_slL, q_slH, q_slHr, q_slT, q_slS, q_D, q_dgH, q_dput, q_dpH, q_dpO, q_lenL, q_lnH, q_lenT, q_lenS, q_listL, q_liH, q_listT, q_tupL, q_tpH, q_tupT, q_intI, q_intB, q_strI, q_sumL, q_smH, q_isi, q_tyS, q_tyL, q_tyH, q_app, q_apH, q_ext, q_exH, q_pop, q_poH, q_joinL, q_joH, q_joinT, q_index, q_idH, q_rng, q_rg1, q_rg2, q_iTup, q_tuq, q_iList, q_liq, q_liO, q_gNil, q_gCons, q_gTup, up3_same, lk_c, lk_l, lk_a, lk_s, lk_m, pt_l, pt_a, pt_s, dk_len, cut_31, tDisp3, q_prs0, q_prs1, dk_mrg, ix_z, at0, at1, at2, at3, List.eraseIdx_cons_zero, Int.toNat_natCast, up3_up3, List.length_map, List.length_cons, List.length_nil, Nat.zero_add, Bool.false_eq_true, if_false, if_true, List.getElem?_cons_zero, List.getElem?_cons_succ, List.set_cons_zero, List.set_cons_succ])
section
variable {P : Program} {w : World} {K : PySem.W.Frag} {mg : Str → Option Value} {base : Heap}
def spTied : Sp3 := fun ts H Q => ∃ (d c p : Addr) (ws : List Str), ts = [.ref d, .ref p] ∧ Deck H d c ∧ p ≠ d ∧ p ≠ c ∧ H p = some (.lst (ws.map T.str)) ∧ 1 ≤ ws.length ∧ ws.length ≤ 8 ∧ ∀ (os : List (Str × Str)) (ps : List (Str × Str × Str)) (H' : Hp3),
  os.length ≤ 28 → os.Nodup → (∀ o ∈ os, o.1 ≠ o.2 ∧ o.1 ∈ ws ∧ o.2 ∈ ws) → ps.length ≤ 12 → ps.Nodup → (∀ p ∈ ps, (p.1 = "with" ∨ p.1 = "apart") ∧ p.2.1 ≠ p.2.2 ∧ p.2.1 ∈ ws ∧ p.2.2 ∈ ws) → Drew d c H H' → Q (.tup [.tup (os.map orT), .tup (ps.map prT)]) H'
theorem four {z : Str} (h : z ∈ (["order", "with", "apart", "order"] : List Str)) (n : z ≠ "order") : z = "with" ∨ z = "apart" := by
  simp only [List.mem_cons, List.not_mem_nil, or_false] at h
  rcases h with h | h | h | h
  · exact absurd h n
  · exact .inl h
  · exact .inr h
  · exact absurd h n
theorem sc_tied : FnScope ["_law_deck_here", "_law_names", "_law_orders", "_law_pairs", "_law_k", "_law_one", "_law_other", "_law_pair"] ["_law_deck_here", "_law_names"] (defScope (top 10)) := ⟨rfl, rfl, rfl, by decide +kernel, rfl, by decide +kernel, by decide +kernel⟩
theorem ok_tied {f : Addr} {fd : FuncData} (g : G3 K mg "_law_tied" (top 10) ["_law_deck_here", "_law_names"] f fd) (B : Bl mg) {f_next : Addr} {fd_next : FuncData} (g_next : G3 K mg "_law_next" (top 4) ["_law_deck_here"] f_next fd_next) (F_next : FnOk3 P w K mg base 1 f_next fd_next ["_law_deck_here"] spNext) : FnOk3 P w K mg base 2 f fd ["_law_deck_here", "_law_names"] spTied := by
  refine fn3 g.fn sc_tied (fun ts H Q h => ?_) (fun cdv A outer s H E ts H3 Q hr h => ?_)
  · obtain ⟨d, c, p, ws, rfl, _⟩ := h; rfl
  · have hu30 := Room.u30 hr
    have hu31 := Room.u31 hr
    have hu1 := Room.u1 hr
    obtain ⟨d, c, p, ws, rfl, D, hpd, hpc, hp, hw1, hw8, k⟩ := h
    refine ⟨_, (ss3_cons (s3_set (i := 2) sc_tied.nd (e3_lst a3_nil))
        (ss3_cons (s3_set (i := 3) sc_tied.nd (e3_lst a3_nil))
        (ss3_cons (s3_for PassesOwn.never rfl (i3_range1 rfl B.range_ (a3_cons (e3_op o3_mul (e3_op o3_mod (e3_call F_next (hr.mono (by decide)) rfl g_next.m g_next.fn.kp g_next.b (a3_cons (v3 0) a3_nil)) c3_int) (e3_callTy c3_int' rfl B.int_ bt_int (a3_cons (e3_cmp o3_gt (e3_callB c3_len rfl B.len_ bt_len (a3_cons (v3 1) a3_nil)) c3_int) a3_nil))) a3_nil)) (g3_name (i := 4) sc_tied.nd) (ss3_cons (s3_set (i := 5) sc_tied.nd (e3_ix ix3 (v3 1) (e3_op o3_mod (e3_call F_next (hr.mono (by decide)) rfl g_next.m g_next.fn.kp g_next.b (a3_cons (v3 0) a3_nil)) (e3_callB c3_len rfl B.len_ bt_len (a3_cons (v3 1) a3_nil)))))
          (ss3_cons (s3_set (i := 6) sc_tied.nd (e3_ix ix3 (v3 1) (e3_op o3_mod (e3_call F_next (hr.mono (by decide)) rfl g_next.m g_next.fn.kp g_next.b (a3_cons (v3 0) a3_nil)) (e3_callB c3_len rfl B.len_ bt_len (a3_cons (v3 1) a3_nil)))))
          (ss3_cons (s3_set (i := 7) sc_tied.nd (e3_tup (a3_cons (e3_ix ix3 (e3_lst (a3_cons c3_str (a3_cons c3_str (a3_cons c3_str (a3_cons c3_str a3_nil))))) (e3_op o3_mod (e3_call F_next (hr.mono (by decide)) rfl g_next.m g_next.fn.kp g_next.b (a3_cons (v3 0) a3_nil)) c3_int)) (a3_cons (v3 5) (a3_cons (v3 6) a3_nil)))))
          (ss3_one (s3_if (t3_cmp (o3_eq hu30) (e3_ix ix3 (v3 7) c3_int) c3_str) (ss3_cons (s3_set (i := 7) sc_tied.nd (e3_slice (v3 7) (po3_some c3_int) po3_none))
            (ss3_one (s3_if (PW3.pt (w3_and (t3_cmp (o3_ne hu30) (v3 5) (v3 6)) (w3_and (t3_cmp (o3_notin hu31) (v3 7) (v3 2) rfl) (w3_and1 (t3_cmp o3_lt (e3_callB c3_len rfl B.len_ bt_len (a3_cons (v3 2) a3_nil)) c3_int))))) (ss3_one (s3_expr (e3_bm PySem.F.plainAttrs_list PySem.F.slot_list_append PySem.F.type_list_append m3_append (v3 2) (a3_cons (v3 7) a3_nil)))) ss3_nil))) (ss3_one (s3_if (PW3.pt (w3_and (t3_cmp (o3_ne hu30) (v3 5) (v3 6)) (w3_and (t3_cmp (o3_notin hu31) (v3 7) (v3 3) rfl) (w3_and1 (t3_cmp o3_lt (e3_callB c3_len rfl B.len_ bt_len (a3_cons (v3 3) a3_nil)) c3_int))))) (ss3_one (s3_expr (e3_bm PySem.F.plainAttrs_list PySem.F.slot_list_append PySem.F.type_list_append m3_append (v3 3) (a3_cons (v3 7) a3_nil)))) ss3_nil))))))))
        (ss3_one (s3_ret (e3_tup (a3_cons (e3_callTy c3_tuple rfl B.tuple_ bt_tuple (a3_cons (v3 2) a3_nil)) (a3_cons (e3_callTy c3_tuple rfl B.tuple_ bt_tuple (a3_cons (v3 3) a3_nil)) a3_nil)))))))), ?_⟩
    rw [show start3 ["_law_deck_here", "_law_names", "_law_orders", "_law_pairs", "_law_k", "_law_one", "_law_other", "_law_pair"] [T.ref d, T.ref p] = [some (T.ref d), some (T.ref p), none, none, none, none, none, none] from rfl]
    walk_at "rd"
    refine ⟨by decide, fun q1 hq1 => ⟨by decide, fun q2 hq2 => ?_⟩⟩
    have hq1' := hq1
    obtain ⟨h21, hq2⟩ := up3_none hq2
    have h1d := D.nd hq1
    have h1c := D.nc hq1
    have h2d := D.nd hq2
    have h2c := D.nc hq2
    have hp1 : p ≠ q1 := ne3n hp hq1
    have hp2 : p ≠ q2 := ne3n hp hq2
    refine ⟨d, c, rfl, (D.new h1d h1c).new h2d h2c, fun n1 H1 n10 n11 hD1 => ?_⟩
    have hpH1 : H1 p = some (.lst (ws.map T.str)) := by rw [hD1.off p hpd hpc, up3_ne hp2, up3_ne hp1]; exact hp
    walk_at "rd"
    have b0 : 0 ≤ n1 % 41 * (if decide (1 < (ws.length : Int)) = true then 1 else 0) := by
      have := Int.emod_nonneg n1 (show (41 : Int) ≠ 0 by decide)
      split <;> omega
    have b1 : n1 % 41 * (if decide (1 < (ws.length : Int)) = true then 1 else 0) < 41 := by
      have := Int.emod_lt_of_pos n1 (show (0 : Int) < 41 by decide)
      split <;> omega
    refine ⟨by decide, .inr (by split <;> exact ⟨by decide, by decide⟩), True.intro, by omega, by omega, ?_⟩
    generalize hts : rng3 0 (n1 % 41 * if decide (1 < (ws.length : Int)) = true then 1 else 0).toNat = ts0
    clear hts b0 b1
    refine iter_go (fun r σ H' => ∃ (os : List (Str × Str)) (ps : List (Str × Str × Str)) (v1 v2 v3 v4 : Option T), σ = [some (.ref d), some (.ref p), some (.ref q1), some (.ref q2), v1, v2, v3, v4] ∧
      os.length ≤ 28 ∧ os.Nodup ∧ (∀ o ∈ os, o.1 ≠ o.2 ∧ o.1 ∈ ws ∧ o.2 ∈ ws) ∧ ps.length ≤ 12 ∧ ps.Nodup ∧ (∀ p ∈ ps, (p.1 = "with" ∨ p.1 = "apart") ∧ p.2.1 ≠ p.2.2 ∧ p.2.1 ∈ ws ∧ p.2.2 ∈ ws) ∧
      H' p = some (.lst (ws.map T.str)) ∧ H' q1 = some (.lst (os.map orT)) ∧ H' q2 = some (.lst (ps.map prT)) ∧ Deck H' d c ∧ Keep d c H3 H')
      ⟨[], [], none, none, none, none, rfl, by decide, List.nodup_nil, (fun _ h => nomatch h), by decide, List.nodup_nil, (fun _ h => nomatch h), hpH1, by rw [hD1.off q1 h1d h1c, up3_ne (Ne.symm h21), up3_same]; rfl, by rw [hD1.off q2 h2d h2c, up3_same]; rfl, hD1.deck, ((Keep.refl.new hq1).new (by rw [up3_ne h21]; exact hq2)).drew hD1⟩ ?_ ?_
    · rintro σ H' ⟨os, ps, v1, v2, v3, v4, rfl, o28, ond, oo, p12, pnd, pp, hpH, ho, hps, hD, hK⟩
      refine ⟨trivial, ?_⟩
      walk_at "rd"
      exact ⟨by decide, fin_drew hD hK fun H'' hDr => k os ps H'' o28 ond oo p12 pnd pp hDr⟩
    · rintro x r σ H' N ⟨os, ps, v1, v2, v3, v4, rfl, o28, ond, oo, p12, pnd, pp, hpH, ho, hps, hD, hK⟩ hN
      refine ⟨trivial, ?_⟩
      have hpos : (0 : Int) < ws.length := by omega
      walk_at "rd"
      refine ⟨d, c, rfl, hD, fun n2 H2 n20 n21 hD2 => ?_⟩
      have hpH2 : H2 p = some (.lst (ws.map T.str)) := by rw [hD2.off p hpd hpc]; exact hpH
      obtain ⟨one, h1m, h1⟩ := at_ex ws (n2 % (ws.length : Int)) (Int.emod_nonneg _ (by omega)) (Int.emod_lt_of_pos _ hpos)
      have h1' : atI (ws.map T.str) (n2 % (ws.length : Int)) = some (T.str one) := by rw [at_map, h1]; rfl
      walk_at "rd"
      refine ⟨True.intro, d, c, rfl, hD2.deck, fun n3 H4 n30 n31 hD4 => ?_⟩
      have hpH4 : H4 p = some (.lst (ws.map T.str)) := by rw [hD4.off p hpd hpc]; exact hpH2
      obtain ⟨oth, h2m, h2⟩ := at_ex ws (n3 % (ws.length : Int)) (Int.emod_nonneg _ (by omega)) (Int.emod_lt_of_pos _ hpos)
      have h2' : atI (ws.map T.str) (n3 % (ws.length : Int)) = some (T.str oth) := by rw [at_map, h2]; rfl
      walk_at "rd"
      refine ⟨True.intro, by decide, fun q3 hq3 => ?_⟩
      have h3d := hD4.deck.nd hq3
      have h3c := hD4.deck.nc hq3
      refine ⟨d, c, rfl, hD4.deck.new h3d h3c, fun n4 H5 n40 n41 hD5 => ?_⟩
      have hq35 : H5 q3 = some (.lst [T.str "order", T.str "with", T.str "apart", T.str "order"]) := by rw [hD5.off q3 h3d h3c, up3_same]
      obtain ⟨z, hzm, hz⟩ := at_ex (["order", "with", "apart", "order"] : List Str) (n4 % 4) (Int.emod_nonneg _ (by decide)) (Int.emod_lt_of_pos _ (by decide))
      have hz' : atI [T.str "order", T.str "with", T.str "apart", T.str "order"] (n4 % 4) = some (T.str z) := by
        have := at_map T.str (["order", "with", "apart", "order"] : List Str) (n4 % 4)
        rw [hz] at this
        exact this
      have ho4 : H4 q1 = some (.lst (os.map orT)) := by rw [hD4.off q1 h1d h1c, hD2.off q1 h1d h1c]; exact ho
      have hp4 : H4 q2 = some (.lst (ps.map prT)) := by rw [hD4.off q2 h2d h2c, hD2.off q2 h2d h2c]; exact hps
      have ho5 : H5 q1 = some (.lst (os.map orT)) := by rw [hD5.off q1 h1d h1c, up3_ne (ne3n ho4 hq3)]; exact ho4
      have hp5 : H5 q2 = some (.lst (ps.map prT)) := by rw [hD5.off q2 h2d h2c, up3_ne (ne3n hp4 hq3)]; exact hp4
      have hpH5 : H5 p = some (.lst (ws.map T.str)) := by rw [hD5.off p hpd hpc, up3_ne (ne3n hpH4 hq3)]; exact hpH4
      have hK5 : Keep d c H3 H5 := (((hK.drew hD2).drew hD4).new hq3).drew hD5
      clear hq3 hK hD hD2 hD4 ho hps hpH hpH2 hpH4 ho4 hp4 hpH1 hD1 h1 h2 hz
      walk_at "rd"
      refine ⟨by decide, by decide, ?_⟩
      have stay : N [some (.ref d), some (.ref p), some (.ref q1), some (.ref q2), some x, some (.str one), some (.str oth), some (.tup [.str z, .str one, .str oth])] H5 :=
        hN _ _ ⟨os, ps, _, _, _, _, rfl, o28, ond, oo, p12, pnd, pp, hpH5, ho5, hp5, hD5.deck, hK5⟩
      have stay2 : N [some (.ref d), some (.ref p), some (.ref q1), some (.ref q2), some x, some (.str one), some (.str oth), some (.tup [.str one, .str oth])] H5 :=
        hN _ _ ⟨os, ps, _, _, _, _, rfl, o28, ond, oo, p12, pnd, pp, hpH5, ho5, hp5, hD5.deck, hK5⟩
      split
      · refine ⟨by decide, ?_⟩
        walk_at "rd"
        split
        · rename_i hne
          refine ⟨by rfl, pl_ors os, ?_⟩
          split
          · rename_i hni
            have hni' : (one, oth) ∉ os := (memN orT_inj (x := (one, oth))).mp hni
            walk_at "rd"
            split
            · rename_i hlt
              have hlt' : (os.length : Int) < 28 := of_decide_eq_true hlt
              refine ⟨⟨True.intro, True.intro⟩, by have : sizeLine = 16777216 := rfl; omega, ?_⟩
              refine hN _ _ ⟨os ++ [(one, oth)], ps, _, _, _, _, rfl, by simp only [List.length_append, List.length_singleton]; omega, nd_snoc ond hni', fun o ho => ?_, p12, pnd, pp, ?_, ?_, ?_, hD5.deck.new h1d h1c, ?_⟩
              · rcases List.mem_append.mp ho with ho | ho
                · exact oo o ho
                · rw [List.mem_singleton.mp ho]
                  exact ⟨by simpa using hne, h1m, h2m⟩
              · rw [up3_ne hp1]; exact hpH5
              · rw [up3_same, List.map_append]; rfl
              · rw [up3_ne h21]; exact hp5
              · intro b o hb h1 h2
                rw [up3_ne (ne3n hb hq1')]; exact hK5 b o hb h1 h2
            · first | exact True.intro | exact stay2
          · first | exact True.intro | exact stay2
        · first | exact True.intro | exact stay2
      · rename_i hno
        have hwz : z = "with" ∨ z = "apart" := four hzm (by simpa using hno)
        walk_at "rd"
        split
        · rename_i hne
          refine ⟨by rfl, pl_prs ps, ?_⟩
          split
          · rename_i hni
            have hni' : (z, one, oth) ∉ ps := (memN prT_inj (x := (z, one, oth))).mp hni
            walk_at "rd"
            split
            · rename_i hlt
              have hlt' : (ps.length : Int) < 12 := of_decide_eq_true hlt
              refine ⟨⟨True.intro, True.intro⟩, by have : sizeLine = 16777216 := rfl; omega, ?_⟩
              refine hN _ _ ⟨os, ps ++ [(z, one, oth)], _, _, _, _, rfl, o28, ond, oo, by simp only [List.length_append, List.length_singleton]; omega, nd_snoc pnd hni', fun o ho => ?_, ?_, ?_, ?_, hD5.deck.new h2d h2c, ?_⟩
              · rcases List.mem_append.mp ho with ho | ho
                · exact pp o ho
                · rw [List.mem_singleton.mp ho]
                  exact ⟨hwz, by simpa using hne, h1m, h2m⟩
              · rw [up3_ne hp2]; exact hpH5
              · rw [up3_ne (Ne.symm h21)]; exact ho5
              · rw [up3_same, List.map_append]; rfl
              · intro b o hb h1 h2
                rw [up3_ne (ne3n hb hq2)]; exact hK5 b o hb h1 h2
            · first | exact True.intro | exact stay
          · first | exact True.intro | exact stay
        · first | exact True.intro | exact stay
end
end M

set_option Elab.async false
set_option linter.all false
set_option maxRecDepth 100000
set_option maxHeartbeats 4000000
namespace M
open PySem PySem.Spec PyProof.Rows L2 L3
local macro_rules | `(tactic| walk_at "rd") => `(tactic| try simp only [*, ne_eq, not_false_eq_true, up3_ne, tSeq3, tAsg3, tC3, gName3, tFor3, tCons3, tNil3, tRet3, tRetN3, tOp3, tIfS3, tAnd3, tOr3, tNot3, tCB3, tBM3, tDrop3, tNext3, gSub3, tCall3, tTup3, tLst3, tIf3, tSl3, tNoPart3, tYes3, q_vq, q_var, q_bq, q_test, q_chain, q_andV, q_orV, q_notV, q_oq, q_I, q_I0, q_addI, q_addS, q_addT, q_addL, q_catH, q_eqI, q_eqS, q_eqB, q_eqT, q_eqL, q_eqH, q_inT, q_inS, q_inL, q_inH, q_ixL, q_ixH, q_ixT, q_ixS, q_setL, q_stH, q_pq, q_part, q_slL, q_slH, q_slHr, q_slT, q_slS, q_D, q_dgH, q_dput, q_dpH, q_dpO, q_lenL, q_lnH, q_lenT, q_lenS, q_listL, q_liH, q_listT, q_tupL, q_tpH, q_tupT, q_intI, q_intB, q_strI, q_sumL, q_smH, q_isi, q_tyS, q_tyL, q_tyH, q_app, q_apH, q_ext, q_exH, q_pop, q_poH, q_joinL, q_joH, q_joinT, q_index, q_idH, q_rng, q_rg1, q_rg2, q_iTup, q_tuq, q_iList, q_liq, q_liO, q_gNil, q_gCons, q_gTup, up3_same, lk_c, lk_l, lk_a, lk_s, lk_m, pt_l, pt_a, pt_s, dk_len, cut_31, tDisp3, q_prs0, q_prs1, dk_mrg, ix_z, at0, at1, at2, at3, List.eraseIdx_cons_zero, Int.toNat_natCast, up3_up3, List.length_map, List.length_cons, List.length_nil, Nat.zero_add, Bool.false_eq_true, if_false, if_true, List.getElem?_cons_zero, List.getElem?_cons_succ, List.set_cons_zero, List.set_cons_succ])
section
variable {P : Program} {w : World} {K : PySem.W.Frag} {mg : Str → Option Value} {base : Heap}
def spWorks : Sp3 := fun ts H Q => ∃ d c, ts = [.ref d] ∧ Deck H d c ∧ ∀ (W : Wk) (H' : Hp3), WkOk W → Drew d c H H' → Q W.enc H'
theorem sc_works : FnScope ["_law_deck_here", "_law_names", "_law_some", "_law_tasks", "_law_orders", "_law_pairs", "_law_row"] ["_law_deck_here"] (defScope (top 11)) := ⟨rfl, rfl, rfl, by decide +kernel, rfl, by decide +kernel, by decide +kernel⟩
theorem ok_works {f : Addr} {fd : FuncData} (g : G3 K mg "_law_works" (top 11) ["_law_deck_here"] f fd) (B : Bl mg) {f_next : Addr} {fd_next : FuncData} (g_next : G3 K mg "_law_next" (top 4) ["_law_deck_here"] f_next fd_next) (F_next : FnOk3 P w K mg base 1 f_next fd_next ["_law_deck_here"] spNext) {f_tied : Addr} {fd_tied : FuncData} (g_tied : G3 K mg "_law_tied" (top 10) ["_law_deck_here", "_law_names"] f_tied fd_tied) (F_tied : FnOk3 P w K mg base 2 f_tied fd_tied ["_law_deck_here", "_law_names"] spTied) {f_task : Addr} {fd_task : FuncData} (g_task : G3 K mg "_law_task" (top 9) ["_law_deck_here", "_law_name", "_law_some"] f_task fd_task) (F_task : FnOk3 P w K mg base 4 f_task fd_task ["_law_deck_here", "_law_name", "_law_some"] spTask) {f_words : Addr} {fd_words : FuncData} (g_words : G3 K mg "_law_words" (top 7) ["_law_deck_here", "_law_many"] f_words fd_words) (F_words : FnOk3 P w K mg base 3 f_words fd_words ["_law_deck_here", "_law_many"] spWords) : FnOk3 P w K mg base 5 f fd ["_law_deck_here"] spWorks := by
  refine fn3 g.fn sc_works (fun ts H Q h => ?_) (fun cdv A outer s H E ts H3 Q hr h => ?_)
  · obtain ⟨d, c, rfl, _⟩ := h; rfl
  · have hu30 := Room.u30 hr
    have hu31 := Room.u31 hr
    have hu1 := Room.u1 hr
    obtain ⟨d, c, rfl, D, k⟩ := h
    refine ⟨_, (ss3_cons (s3_set (i := 1) sc_works.nd (e3_call F_words (hr.mono (by decide)) rfl g_words.m g_words.fn.kp g_words.b (a3_cons (v3 0) (a3_cons (e3_op o3_add c3_int (e3_op o3_mod (e3_call F_next (hr.mono (by decide)) rfl g_next.m g_next.fn.kp g_next.b (a3_cons (v3 0) a3_nil)) c3_int)) a3_nil))))
        (ss3_cons (s3_set (i := 2) sc_works.nd (e3_call F_words (hr.mono (by decide)) rfl g_words.m g_words.fn.kp g_words.b (a3_cons (v3 0) (a3_cons c3_int a3_nil))))
        (ss3_cons (s3_setC (i := 3) rfl sc_works.nd (compSc (n0 := (defScope (top 11)).names) (N := ["_law_deck_here", "_law_names", "_law_some", "_law_tasks", "_law_orders", "_law_pairs", "_law_row"]) (N' := ["_law_name", "_law_deck_here", "_law_some"]) (nt := 1) (cap := [0, 2]) rfl rfl (by decide +kernel)) (i3_list (v3 1)) (fun cl pins s H C fp => ⟨(g3_name (i := 0) (show List.Nodup [("_law_name" : Str), ("_law_deck_here" : Str), ("_law_some" : Str)] by decide +kernel)), if3_nil, (e3_call F_task (hr.mono (by decide)) rfl g_task.m g_task.fn.kp g_task.b (a3_cons (v3 1) (a3_cons (v3 0) (a3_cons (v3 2) a3_nil))))⟩))
        (ss3_cons (s3_asg (e3_call F_tied (hr.mono (by decide)) rfl g_tied.m g_tied.fn.kp g_tied.b (a3_cons (v3 0) (a3_cons (v3 1) a3_nil))) (g3_tup (n := 2) rfl (gs3_cons (g3_name (i := 4) sc_works.nd) (gs3_cons (g3_name (i := 5) sc_works.nd) gs3_nil))))
        (ss3_cons (s3_setC (i := 6) rfl sc_works.nd (compSc (n0 := (defScope (top 11)).names) (N := ["_law_deck_here", "_law_names", "_law_some", "_law_tasks", "_law_orders", "_law_pairs", "_law_row"]) (N' := ["_law_k", "_law_some", "_law_deck_here"]) (nt := 1) (cap := [2, 0]) rfl rfl (by decide +kernel)) (i3_range1 rfl B.range_ (a3_cons (e3_op o3_add c3_int (e3_op o3_mod (e3_call F_next (hr.mono (by decide)) rfl g_next.m g_next.fn.kp g_next.b (a3_cons (v3 0) a3_nil)) c3_int)) a3_nil)) (fun cl pins s H C fp => ⟨(g3_name (i := 0) (show List.Nodup [("_law_k" : Str), ("_law_some" : Str), ("_law_deck_here" : Str)] by decide +kernel)), if3_nil, (e3_ix ix3 (v3 1) (e3_op o3_mod (e3_call F_next (hr.mono (by decide)) rfl g_next.m g_next.fn.kp g_next.b (a3_cons (v3 2) a3_nil)) c3_int))⟩))
        (ss3_one (s3_ret (e3_tup (a3_cons (e3_callTy c3_tuple rfl B.tuple_ bt_tuple (a3_cons (v3 3) a3_nil)) (a3_cons (v3 4) (a3_cons (v3 5) (a3_cons (e3_callTy c3_tuple rfl B.tuple_ bt_tuple (a3_cons (v3 6) a3_nil)) a3_nil)))))))))))), ?_⟩
    rw [show start3 ["_law_deck_here", "_law_names", "_law_some", "_law_tasks", "_law_orders", "_law_pairs", "_law_row"] [T.ref d] = [some (T.ref d), none, none, none, none, none, none] from rfl]
    walk_at "rd"
    refine ⟨d, c, rfl, D, fun n1 H1 n10 n11 hD1 => ?_⟩
    walk_at "rd"
    refine ⟨by decide, d, c, 1 + n1 % 8, rfl, hD1.deck, by omega, by omega, fun p ws H2 hp1 hp2 hwl hws hD2 off2 => ?_⟩
    have hpd := hD1.deck.nd hp1
    have hpc := hD1.deck.nc hp1
    walk_at "rd"
    refine ⟨d, c, 8, rfl, hD2, by decide, by decide, fun q vs H4 hq1 hq2 hvl hvs hD4 off4 => ?_⟩
    have hqd := hD2.nd hq1
    have hqc := hD2.nc hq1
    have hpq : p ≠ q := ne3n hp2 hq1
    have hp4 : H4 p = some (.lst (ws.map T.str)) := by rw [off4 p hpd hpc hpq]; exact hp2
    have hK4 : Keep d c H3 H4 := fun b o hb h1 h2 => by
      have e1 : H1 b = some o := by rw [hD1.off b h1 h2]; exact hb
      have e2 : H2 b = some o := by rw [off2 b h1 h2 (ne3n e1 hp1)]; exact e1
      rw [off4 b h1 h2 (ne3n e2 hq1)]; exact e2
    walk_at "rd"
    simp only [tSetComp3]
    walk_at "rd"
    rw [show cap3 1 [0, 2] [some (T.ref d), some (T.ref p), some (T.ref q), none, none, none, none] = [none, some (T.ref d), some (T.ref q)] from rfl]
    refine cIter_go (fun r ys σ H' => ∃ (rs : List Str) (ts : List (Str × Int × List Str)) (v : Option T), σ = [v, some (.ref d), some (.ref q)] ∧ r = rs.map T.str ∧ ys = ts.map tkT ∧ ts.map (·.1) ++ rs = ws ∧ (∀ t ∈ ts, tkOk t) ∧
      H' p = some (.lst (ws.map T.str)) ∧ H' q = some (.lst (vs.map T.str)) ∧ Deck H' d c ∧ Keep d c H3 H') ⟨ws, [], none, rfl, rfl, rfl, rfl, (fun _ h => nomatch h), hp4, hq2, hD4, hK4⟩ ?_ ?_
    · rintro ys σ H5 ⟨rs, ts, v, rfl, hrs, rfl, hsp, htk, hp5, hq5, hD5, hK5⟩
      have hrs' : rs = [] := List.map_eq_nil_iff.mp hrs.symm
      subst hrs'
      clear hrs
      rw [List.append_nil] at hsp
      have htl : (ts.length : Int) = 1 + n1 % 8 := by rw [← hwl, ← hsp, List.length_map]
      have hsz : sizeLine = 16777216 := rfl
      refine ⟨.inl hp5, by rw [List.length_map]; omega, fun r1 hr1 => ?_⟩
      have h1d := hD5.nd hr1
      have h1c := hD5.nc hr1
      have hp6 : up3 H5 r1 (O3.lst (ts.map tkT)) p = some (.lst (ws.map T.str)) := by rw [up3_ne (ne3n hp5 hr1)]; exact hp5
      walk_at "rd"
      refine ⟨d, c, p, ws, rfl, hD5.new h1d h1c, hpd, hpc, hp6, by omega, by omega, fun os ps H7 o28 ond oo p12 pnd pp hD7 => ?_⟩
      have hK7 : Keep d c H3 H7 := (hK5.new hr1).drew hD7
      have hr7 : H7 r1 = some (.lst (ts.map tkT)) := by rw [hD7.off r1 h1d h1c, up3_same]
      have hq7 : H7 q = some (.lst (vs.map T.str)) := by rw [hD7.off q hqd hqc, up3_ne (ne3n hq5 hr1)]; exact hq5
      walk_at "rd"
      refine ⟨True.intro, ?_⟩
      simp only [tSetComp3]
      walk_at "rd"
      rw [show cap3 1 [2, 0] [some (T.ref d), some (T.ref p), some (T.ref q), some (T.ref r1), some (T.tup (List.map orT os)), some (T.tup (List.map prT ps)), none] = [none, some (T.ref q), some (T.ref d)] from rfl]
      refine ⟨d, c, rfl, hD7.deck, fun n2 H8 n20 n21 hD8 => ?_⟩
      have hr8 : H8 r1 = some (.lst (ts.map tkT)) := by rw [hD8.off r1 h1d h1c]; exact hr7
      have hq8 : H8 q = some (.lst (vs.map T.str)) := by rw [hD8.off q hqd hqc]; exact hq7
      walk_at "rd"
      refine ⟨by decide, True.intro, by omega, by omega, ?_⟩
      have hrl : (rng3 0 (1 + n2 % 8).toNat).length = (1 + n2 % 8).toNat := by simp [rng3]
      generalize rng3 0 (1 + n2 % 8).toNat = ts0 at hrl
      refine cIter_go (fun r ys σ H' => ∃ (xs : List Str) (v : Option T), σ = [v, some (.ref q), some (.ref d)] ∧ ys = xs.map T.str ∧ xs.length + r.length = (1 + n2 % 8).toNat ∧ (∀ x ∈ xs, isNm x) ∧
        H' r1 = some (.lst (ts.map tkT)) ∧ H' q = some (.lst (vs.map T.str)) ∧ Deck H' d c ∧ Keep d c H3 H') ⟨[], none, rfl, rfl, by simpa using hrl, (fun _ h => nomatch h), hr8, hq8, hD8.deck, hK7.drew hD8⟩ ?_ ?_
      · rintro ys σ H9 ⟨xs, v, rfl, rfl, hxl, hxn, hr9, hq9, hD9, hK9⟩
        simp only [List.length_nil, Nat.add_zero] at hxl
        refine ⟨trivial, by rw [List.length_map]; omega, fun r2 hr2 => ?_⟩
        have h12 : r1 ≠ r2 := ne3n hr9 hr2
        walk_at "rd"
        refine ⟨by decide, fin_drew (hD9.new (hD9.nd hr2) (hD9.nc hr2)) (hK9.new hr2) fun H'' hDr => ?_⟩
        refine k ⟨ts, os, ps, xs⟩ H'' ⟨by show 1 ≤ ts.length; omega, by show ts.length ≤ 8; omega, htk, by rw [hsp]; exact hws.nd, o28, ond, ?_, p12, pnd, ?_, by show 1 ≤ xs.length; omega, by show xs.length ≤ 8; omega, hxn⟩ hDr
        · intro o ho; rw [hsp]; exact oo o ho
        · intro o ho; rw [hsp]; exact pp o ho
      · rintro x r ys σ H9 N ⟨xs, v, rfl, rfl, hxl, hxn, hr9, hq9, hD9, hK9⟩ hN
        simp only [List.length_cons] at hxl
        refine ⟨trivial, ?_⟩
        walk_at "rd"
        refine ⟨d, c, rfl, hD9, fun n3 H10 n30 n31 hD10 => ?_⟩
        have hq10 : H10 q = some (.lst (vs.map T.str)) := by rw [hD10.off q hqd hqc]; exact hq9
        obtain ⟨z, hzm, hz⟩ := at_ex vs (n3 % 8) (Int.emod_nonneg _ (by decide)) (by rw [hvl]; exact Int.emod_lt_of_pos _ (by decide))
        have hz' : atI (vs.map T.str) (n3 % 8) = some (T.str z) := by rw [at_map, hz]; rfl
        walk_at "rd"
        refine ⟨by decide, by omega, hN _ _ _ ⟨xs ++ [z], _, rfl, by rw [List.map_append]; rfl, by simp only [List.length_append, List.length_singleton]; omega, fun y hy => ?_, by rw [hD10.off r1 h1d h1c]; exact hr9, hq10, hD10.deck, hK9.drew hD10⟩⟩
        rcases List.mem_append.mp hy with hy | hy
        · exact hxn y hy
        · rw [List.mem_singleton.mp hy]; exact hvs.nm z hzm
    · rintro x r ys σ H5 N ⟨rs, ts, v, rfl, hrs, rfl, hsp, htk, hp5, hq5, hD5, hK5⟩ hN
      cases rs with
      | nil => cases hrs
      | cons nm rs =>
        injection hrs with e1 e2
        subst e1 e2
        refine ⟨.inl hp5, ?_⟩
        walk_at "rd"
        have hnm : nm ∈ ws := by rw [← hsp]; simp
        refine ⟨d, c, q, nm, vs, rfl, hD5, hqd, hqc, hq5, by omega, hvs, hws.nm nm hnm, fun t H6 ht1 htk' hD6 => ?_⟩
        have hl : ts.length < 9 := by
          have := congrArg List.length hsp
          simp only [List.length_append, List.length_map, List.length_cons] at this
          omega
        refine ⟨by have : sizeLine = 16777216 := rfl; (try rw [List.length_map]); omega, hN _ _ _ ⟨rs, ts ++ [t], _, rfl, rfl, by rw [List.map_append]; rfl, ?_, fun u hu => ?_, by rw [hD6.off p hpd hpc]; exact hp5, by rw [hD6.off q hqd hqc]; exact hq5, hD6.deck, hK5.drew hD6⟩⟩
        · rw [List.map_append, ← hsp, List.append_assoc]
          simp [ht1]
        · rcases List.mem_append.mp hu with hu | hu
          · exact htk u hu
          · rw [List.mem_singleton.mp hu]; exact htk'
end
end M

set_option Elab.async false
set_option linter.all false
set_option maxRecDepth 100000
set_option maxHeartbeats 4000000
namespace M
open PySem PySem.Spec PyProof.Rows L2 L3
local macro_rules | `(tactic| walk_at "rd") => `(tactic| try simp only [*, ne_eq, not_false_eq_true, up3_ne, tSeq3, tAsg3, tC3, gName3, tFor3, tCons3, tNil3, tRet3, tRetN3, tOp3, tIfS3, tAnd3, tOr3, tNot3, tCB3, tBM3, tDrop3, tNext3, gSub3, tCall3, tTup3, tLst3, tIf3, tSl3, tNoPart3, tYes3, q_vq, q_var, q_bq, q_test, q_chain, q_andV, q_orV, q_notV, q_oq, q_I, q_I0, q_addI, q_addS, q_addT, q_addL, q_catH, q_eqI, q_eqS, q_eqB, q_eqT, q_eqL, q_eqH, q_inT, q_inS, q_inL, q_inH, q_ixL, q_ixH, q_ixT, q_ixS, q_setL, q_stH, q_pq, q_part, q_slL, q_slH, q_slHr, q_slT, q_slS, q_D, q_dgH, q_dput, q_dpH, q_dpO, q_lenL, q_lnH, q_lenT, q_lenS, q_listL, q_liH, q_listT, q_tupL, q_tpH, q_tupT, q_intI, q_intB, q_strI, q_sumL, q_smH, q_isi, q_tyS, q_tyL, q_tyH, q_app, q_apH, q_ext, q_exH, q_pop, q_poH, q_joinL, q_joH, q_joinT, q_index, q_idH, q_rng, q_rg1, q_rg2, q_iTup, q_tuq, q_iList, q_liq, q_liO, q_gNil, q_gCons, q_gTup, up3_same, lk_c, lk_l, lk_a, lk_s, lk_m, pt_l, pt_a, pt_s, dk_len, cut_31, tDisp3, q_prs0, q_prs1, dk_mrg, ix_z, at0, at1, at2, at3, List.eraseIdx_cons_zero, Int.toNat_natCast, up3_up3, List.length_map, List.length_cons, List.length_nil, Nat.zero_add, Bool.false_eq_true, if_false, if_true, List.getElem?_cons_zero, List.getElem?_cons_succ, List.set_cons_zero, List.set_cons_succ])
section
variable {P : Program} {w : World} {K : PySem.W.Frag} {mg : Str → Option Value} {base : Heap}
theorem word_while {D : Ends3} {d p : Addr} {a b v1 v2 : Option T} {ws : List Str} {H : Hp3} (hp : H p = some (.lst (ws.map T.str))) (hw7 : ws.length ≤ 7) (l : List Nat) (h1 : 1 ≤ l.length) (h8 : l.length ≤ 8) (hl : ∀ x ∈ l, 97 ≤ x ∧ x ≤ 122)
    (hnx : ∀ l' : List Nat, isNm (mkS l') → mkS l' ∉ ws → D.nx [some (.ref d), some (.ref p), some (.str (mkS abcL)), a, b, some (.str (mkS l')), v1, v2] H) :
    tWhile3 (tTest3 (tOp3 (r3In false) (tVar3 5) (tVar3 1))) (tAsg3 (tOp3 rAdd3 (tOp3 r3Ix (tVar3 2) (tOp3 (rI3 (fun x j => 0 < j) fun i j => T.int (i % j)) (tOp3 rAdd3 (tBM3 "str" r3Index (tVar3 2) (tCons3 (tOp3 r3Ix (tVar3 5) (tC3 (T.int 0))) tNil3)) (tC3 (T.int 1))) (tC3 (T.int 26)))) (tSl3 (tVar3 5) (tPart3 (tC3 (T.int 1))) tNoPart3)) (gName3 5)) D
      [some (.ref d), some (.ref p), some (.str (mkS abcL)), a, b, some (.str (mkS l)), v1, v2] H := by
  have hsz : sizeLine = 16777216 := rfl
  refine ⟨fun m σ H' => ∃ (c : Nat) (r : List Nat), σ = [some (.ref d), some (.ref p), some (.str (mkS abcL)), a, b, some (.str (mkS (c :: r))), v1, v2] ∧ H' = H ∧ r.length ≤ 7 ∧ (∀ x ∈ c :: r, 97 ≤ x ∧ x ≤ 122) ∧ ∀ w ∈ ws, w.cps.toList.head? ≠ some (97 + (c - 97 + m) % 26), ?_, ?_⟩
  · cases l with
    | nil => simp at h1
    | cons c r =>
      obtain ⟨hc0, hc1⟩ := hl c List.mem_cons_self
      obtain ⟨m, hm⟩ := free_letter c hc0 hc1 ws hw7
      exact ⟨m, c, r, rfl, rfl, by simp only [List.length_cons] at h8; omega, hl, hm⟩
  · rintro m σ H' ⟨c, r, rfl, rfl, hr, hl, hm⟩
    obtain ⟨hc0, hc1⟩ := hl c List.mem_cons_self
    walk_at "rd"
    refine ⟨pl_str _, pl_strs ws, ?_⟩
    have nxt : isNm (mkS (c :: r)) := nm_mk (by simp) (by simp only [List.length_cons]; omega) hl
    split
    · rename_i hin
      have hin' : mkS (c :: r) ∈ ws := (memI str_inj).mp hin
      have hm0 : m ≠ 0 := fun e => hm _ hin' (by rw [mkS_cps, e]; show some c = _; congr 1; omega)
      have ha := abc_at ((((c - 97 : Nat) : Int) + 1) % 26) (Int.emod_nonneg _ (by decide)) (Int.emod_lt_of_pos _ (by decide))
      have hix := abc_ix c hc0 hc1
      clear hin hnx
      walk_at "rd"
      simp only [mkS_cps, at0, q_oq]
      walk_at "rd"
      rw [show (⟨#[c]⟩ : Str) = mkS [c] from rfl]
      simp only [hix]
      walk_at "rd"
      simp only [mkS_cps, ha, q_oq]
      walk_at "rd"
      rw [show (1 : Int) = ((1 : Nat) : Int) from rfl]
      simp only [sl_from (c :: r) 1 (by simp), List.drop_one, List.tail_cons]
      rw [show ∀ z : Nat, (⟨#[z]⟩ : Str) = mkS [z] from fun _ => rfl, mkS_app]
      simp only [mkS_len, List.length_cons, List.length_nil]
      refine ⟨True.intro, by omega, by decide, by decide, by omega, by omega, m - 1, by omega, _, r, rfl, True.intro, hr, ?_, ?_⟩
      · intro x hx
        rcases List.mem_cons.mp hx with rfl | hx
        · omega
        · exact hl x (List.mem_cons_of_mem _ hx)
      · intro w hw
        have e : (97 + ((((c - 97 : Nat) : Int) + ((1 : Nat) : Int)) % 26).toNat - 97 + (m - 1)) % 26 = (c - 97 + m) % 26 := by omega
        rw [e]
        exact hm w hw
    · rename_i hin
      refine hnx _ nxt fun z => hin ((memI str_inj).mpr z)
theorem sc_word : FnScope ["_law_deck_here", "_law_words_here", "_law_letters", "_law_way", "_law_number", "_law_word_here", "_law_k", "_law_at"] ["_law_deck_here", "_law_words_here"] (defScope (top 6)) := ⟨rfl, rfl, rfl, by decide +kernel, rfl, by decide +kernel, by decide +kernel⟩
theorem ok_word {f : Addr} {fd : FuncData} (g : G3 K mg "_law_word" (top 6) ["_law_deck_here", "_law_words_here"] f fd) (B : Bl mg) {f_next : Addr} {fd_next : FuncData} (g_next : G3 K mg "_law_next" (top 4) ["_law_deck_here"] f_next fd_next) (F_next : FnOk3 P w K mg base 1 f_next fd_next ["_law_deck_here"] spNext) : FnOk3 P w K mg base 2 f fd ["_law_deck_here", "_law_words_here"] spWord := by
  refine fn3 g.fn sc_word (fun ts H Q h => ?_) (fun cdv A outer s H E ts H3 Q hr h => ?_)
  · obtain ⟨d, c, p, ws, rfl, _⟩ := h; rfl
  · have hu30 := Room.u30 hr
    have hu31 := Room.u31 hr
    have hu1 := Room.u1 hr
    obtain ⟨d, c, p, ws, rfl, D, hpd, hpc, hp, hw7, hws, k⟩ := h
    refine ⟨_, (ss3_cons (s3_set (i := 2) sc_word.nd c3_str)
        (ss3_cons (s3_set (i := 3) sc_word.nd (e3_call F_next (hr.mono (by decide)) rfl g_next.m g_next.fn.kp g_next.b (a3_cons (v3 0) a3_nil)))
        (ss3_cons (s3_set (i := 4) sc_word.nd (e3_call F_next (hr.mono (by decide)) rfl g_next.m g_next.fn.kp g_next.b (a3_cons (v3 0) a3_nil)))
        (ss3_cons (s3_set (i := 5) sc_word.nd c3_str)
        (ss3_cons (s3_for PassesOwn.never rfl (i3_range1 rfl B.range_ (a3_cons (e3_op o3_add c3_int (e3_op o3_mod (v3 3) c3_int)) a3_nil)) (g3_name (i := 6) sc_word.nd) (ss3_cons (s3_set (i := 5) sc_word.nd (e3_op o3_add (v3 5) (e3_ix ix3 (v3 2) (e3_op o3_mod (v3 4) c3_int))))
          (ss3_one (s3_set (i := 4) sc_word.nd (e3_op o3_fdiv (v3 4) c3_int)))))
        (ss3_cons (s3_if (PW3.pt (w3_and (t3_cmp (o3_ne hu30) (v3 1) (e3_lst a3_nil)) (w3_and1 (t3_cmp (o3_eq hu30) (e3_op o3_mod (e3_op o3_fdiv (v3 3) c3_int) c3_int) c3_int)))) (ss3_cons (s3_set (i := 7) sc_word.nd (e3_op o3_mod (e3_op o3_fdiv (v3 3) c3_int) (e3_callB c3_len rfl B.len_ bt_len (a3_cons (e3_ix ix3 (v3 1) c3_int) a3_nil))))
          (ss3_one (s3_set (i := 5) sc_word.nd (e3_op o3_add (e3_op o3_add (e3_slice (e3_ix ix3 (v3 1) c3_int) po3_none (po3_some (v3 7))) (e3_ix ix3 (v3 5) c3_int)) (e3_slice (e3_ix ix3 (v3 1) c3_int) (po3_some (e3_op o3_add (v3 7) c3_int)) po3_none))))) ss3_nil)
        (ss3_cons (s3_while PassesOwn.never (t3_cmp (o3_in hu31) (v3 5) (v3 1) rfl) (ss3_one (s3_set (i := 5) sc_word.nd (e3_op o3_add (e3_ix ix3 (v3 2) (e3_op o3_mod (e3_op o3_add (e3_bm PySem.F.plainAttrs_str PySem.F.slot_str_index PySem.F.type_str_index m3_index (v3 2) (a3_cons (e3_ix ix3 (v3 5) c3_int) a3_nil)) c3_int) c3_int)) (e3_slice (v3 5) (po3_some c3_int) po3_none)))))
        (ss3_one (s3_ret (v3 5)))))))))), ?_⟩
    rw [show start3 ["_law_deck_here", "_law_words_here", "_law_letters", "_law_way", "_law_number", "_law_word_here", "_law_k", "_law_at"] [T.ref d, T.ref p] = [some (T.ref d), some (T.ref p), none, none, none, none, none, none] from rfl]
    have hsz : sizeLine = 16777216 := rfl
    walk_at "rd"
    simp only [abc_eq]
    refine ⟨d, c, rfl, D, fun way H1 w0 w1 hD1 => ?_⟩
    walk_at "rd"
    refine ⟨d, c, rfl, hD1.deck, fun nb H2 b0 b1 hD2 => ?_⟩
    walk_at "rd"
    have hD12 := hD1.trans hD2
    have hpH : H2 p = some (.lst (ws.map T.str)) := by rw [hD12.off p hpd hpc]; exact hp
    refine ⟨by decide, True.intro, by omega, by omega, ?_⟩
    have hrl : (rng3 0 (1 + way % 8).toNat).length = (1 + way % 8).toNat := by simp [rng3]
    generalize rng3 0 (1 + way % 8).toNat = ts0 at hrl
    refine iter_go (fun r σ H' => ∃ (l : List Nat) (nb : Int) (v : Option T), σ = [some (.ref d), some (.ref p), some (.str (mkS abcL)), some (.int way), some (.int nb), some (.str (mkS l)), v, none] ∧ l.length + r.length = (1 + way % 8).toNat ∧ (∀ x ∈ l, 97 ≤ x ∧ x ≤ 122) ∧ H' = H2)
      ⟨[], nb, none, rfl, by simpa using hrl, (fun _ h => nomatch h), rfl⟩ ?_ ?_
    · rintro σ H' ⟨l, nb, v, rfl, hl, hlet, rfl⟩
      simp only [List.length_nil, Nat.add_zero] at hl
      refine ⟨trivial, ?_⟩
      walk_at "rd"
      clear hD1 hD2
      refine ⟨by decide, fun q hq => ?_⟩
      have hqd := hD12.deck.nd hq
      have hqc := hD12.deck.nc hq
      have hpq : p ≠ q := ne3n hpH hq
      have hK : Keep d c H3 (up3 H' q (O3.lst [])) := (Keep.refl.drew hD12).new hq
      have hDk := hD12.deck.new (u := O3.lst []) hqd hqc
      have hpq' : up3 H' q (O3.lst []) p = some (.lst (ws.map T.str)) := by rw [up3_ne hpq]; exact hpH
      have fin : ∀ l' : List Nat, isNm (mkS l') → mkS l' ∉ ws → Fin3 Q (.str (mkS l')) (up3 H' q (O3.lst [])) := fun l' h1 h2 => fin_drew hDk hK fun H'' hDr => k _ H'' h1 h2 hDr
      have l1 : 1 ≤ l.length := by omega
      have l8 : l.length ≤ 8 := by omega
      have wh : ∀ (l' : List Nat) (a b v1 v2 : Option T), 1 ≤ l'.length → l'.length ≤ 8 → (∀ x ∈ l', 97 ≤ x ∧ x ≤ 122) → _ := fun l' a b v1 v2 g1 g8 gl => word_while (D := { nx := tRet3 (tVar3 5) { nx := fun x H' => Fin3 Q T.non H', rt := Fin3 Q }, rt := Fin3 Q }) (d := d) (a := a) (b := b) (v1 := v1) (v2 := v2) hpq' hw7 l' g1 g8 gl (fun l'' i1 i2 => fin l'' i1 i2)
      clear hK hDk hpH hD12 k hq
      generalize up3 H' q (O3.lst []) = HH at hpq' wh fin
      simp only [hpq', q_eqH]
      refine ⟨hpq, pl_strs ws, rfl, ?_⟩
      walk_at "rd"
      split
      · rename_i hne
        have hne' : ws ≠ [] := by rintro rfl; simp at hne
        refine ⟨⟨by decide, by decide +kernel⟩, by decide, ?_⟩
        split
        · cases hw : ws with
          | nil => exact absurd hw hne'
          | cons x0 xr =>
            have hx0 := hws x0 (by rw [hw]; exact List.mem_cons_self)
            obtain ⟨l0, rfl⟩ := mkS_of x0
            have e1 := hx0.lo
            have e2 := hx0.hi
            have e3 := hx0.az
            rw [mkS_len] at e1 e2
            rw [mkS_cps] at e3
            obtain ⟨at', hat⟩ := Int.eq_ofNat_of_zero_le (Int.emod_nonneg (way / 16) (show ((l0.length : Int)) ≠ 0 by omega))
            have hat2 : at' < l0.length := by have := Int.emod_lt_of_pos (way / 16) (show (0 : Int) < l0.length by omega); omega
            cases l with
            | nil => simp at l1
            | cons c0 lr =>
              refine ⟨⟨by decide, by decide +kernel⟩, ?_⟩
              have hpq2 : HH p = some (.lst (T.str (mkS l0) :: xr.map T.str)) := by rw [hpq', hw]; rfl
              simp only [List.map_cons, hpq2, q_ixH, at0, q_oq, q_lenS, mkS_len, q_I, hat, q_pq, q_slS, mkS_cps, sl_to l0 at' (by omega), q_addI]
              rw [show (⟨#[c0]⟩ : Str) = mkS [c0] from rfl]
              simp only [q_addS, q_addI, q_pq, q_slS, hpq2, q_ixH, at0, q_oq]
              rw [show (at' : Int) + 1 = ((at' + 1 : Nat) : Int) by omega]
              simp only [sl_from l0 (at' + 1) (by omega), mkS_app, mkS_len, q_addS]
              simp only [List.length_append, List.length_take, List.length_drop, List.length_cons, List.length_nil]
              refine ⟨by omega, by omega, by omega, by simp only [List.length_cons] at l8; omega, by omega, by omega, by omega, ?_⟩
              refine wh _ _ _ _ _ ?_ ?_ ?_
              · simp only [List.length_append, List.length_take, List.length_drop, List.length_cons, List.length_nil]; omega
              · simp only [List.length_append, List.length_take, List.length_drop, List.length_cons, List.length_nil]; omega
              · intro x hx
                rcases List.mem_append.mp hx with hx | hx
                · rcases List.mem_append.mp hx with hx | hx
                  · exact e3 x (List.mem_of_mem_take hx)
                  · rw [List.mem_singleton.mp hx]; exact hlet c0 List.mem_cons_self
                · exact e3 x (List.mem_of_mem_drop hx)
        · exact wh l _ _ _ _ l1 l8 hlet
      · exact wh l _ _ _ _ l1 l8 hlet
    · rintro x r σ H' N ⟨l, nb, v, rfl, hl, hlet, rfl⟩ hN
      simp only [List.length_cons] at hl
      refine ⟨trivial, ?_⟩
      have ha := abc_at (nb % 26) (Int.emod_nonneg _ (by decide)) (Int.emod_lt_of_pos _ (by decide))
      have hb := Int.emod_lt_of_pos nb (show (0 : Int) < 26 by decide)
      walk_at "rd"
      simp only [mkS_cps, ha, q_oq]
      walk_at "rd"
      rw [show (⟨#[97 + (nb % 26).toNat]⟩ : Str) = mkS [97 + (nb % 26).toNat] from rfl]
      refine ⟨by decide, by rw [mkS_len]; decide, by rw [mkS_len, mkS_len]; simp only [List.length_singleton]; omega, ⟨by decide, by decide +kernel⟩, ?_⟩
      rw [mkS_app]
      refine hN _ _ ⟨_, _, _, rfl, by simp only [List.length_append, List.length_singleton]; omega, fun y hy => ?_, rfl⟩
      rcases List.mem_append.mp hy with hy | hy
      · exact hlet y hy
      · rw [List.mem_singleton.mp hy]; omega
end
end M

set_option Elab.async false
set_option linter.all false
set_option maxRecDepth 100000
set_option maxHeartbeats 4000000
namespace M
open PySem PySem.Spec PyProof.Rows L2 L3
local macro_rules | `(tactic| walk_at "rd") => `(tactic| try simp only [*, ne_eq, not_false_eq_true, up3_ne, tSeq3, tAsg3, tC3, gName3, tFor3, tCons3, tNil3, tRet3, tRetN3, tOp3, tIfS3, tAnd3, tOr3, tNot3, tCB3, tBM3, tDrop3, tNext3, gSub3, tCall3, tTup3, tLst3, tIf3, tSl3, tNoPart3, tYes3, q_vq, q_var, q_bq, q_test, q_chain, q_andV, q_orV, q_notV, q_oq, q_I, q_I0, q_addI, q_addS, q_addT, q_addL, q_catH, q_eqI, q_eqS, q_eqB, q_eqT, q_eqL, q_eqH, q_inT, q_inS, q_inL, q_inH, q_ixL, q_ixH, q_ixT, q_ixS, q_setL, q_stH, q_pq, q_part, q_slL, q_slH, q_slHr, q_slT, q_slS, q_D, q_dgH, q_dput, q_dpH, q_dpO, q_lenL, q_lnH, q_lenT, q_lenS, q_listL, q_liH, q_listT, q_tupL, q_tpH, q_tupT, q_intI, q_intB, q_strI, q_sumL, q_smH, q_tyS, q_tyL, q_tyH, q_app, q_apH, q_ext, q_exH, q_pop, q_poH, q_joinL, q_joH, q_joinT, q_index, q_idH, q_rng, q_rg1, q_rg2, q_iTup, q_tuq, q_iList, q_liq, q_liO, q_gNil, q_gCons, q_gTup, up3_same, lk_c, lk_l, lk_a, lk_s, lk_m, pt_l, pt_a, pt_s, dk_len, cut_31, tDisp3, tComp3, tSetComp3, q_tupRev, q_iZip, q_all, q_alH, zip3_self, qi_str, it_str_str, it_int_str, it_tup_str, it_bl_str, it_non_str, qi_int, it_str_int, it_int_int, it_tup_int, it_bl_int, it_non_int, qi_bool, it_str_bool, it_int_bool, it_tup_bool, it_bl_bool, it_non_bool, qi_tuple, it_str_tuple, it_int_tuple, it_tup_tuple, it_bl_tuple, it_non_tuple, qi_list, it_str_list, it_int_list, it_tup_list, it_bl_list, it_non_list, dec_rfl, decide_true, decide_false, Bool.not_true, Bool.not_false, q_prs0, q_prs1, dk_mrg, ix_z, at0, at1, at2, at3, List.eraseIdx_cons_zero, Int.toNat_natCast, up3_up3, List.length_map, List.length_cons, List.length_nil, Nat.zero_add, Bool.false_eq_true, if_false, if_true, List.getElem?_cons_zero, List.getElem?_cons_succ, List.set_cons_zero, List.set_cons_succ])
section
variable {P : Program} {w : World} {K : PySem.W.Frag} {mg : Str → Option Value} {base : Heap}
variable {d : Nat}
theorem sc_same : FnScope ["_law_one", "_law_other"] ["_law_one", "_law_other"] (defScope (top 12)) := ⟨rfl, rfl, rfl, by decide +kernel, rfl, by decide +kernel, by decide +kernel⟩
theorem ok_same {f : Addr} {fd : FuncData} (g : G3 K mg "_law_same" (top 12) ["_law_one", "_law_other"] f fd) (B : Bl mg) {f_same : Addr} {fd_same : FuncData} (g_same : G3 K mg "_law_same" (top 12) ["_law_one", "_law_other"] f_same fd_same) (F_same : FnOk3 P w K mg base d f_same fd_same ["_law_one", "_law_other"] (spSame d)) : FnOk3 P w K mg base (d + 1) f fd ["_law_one", "_law_other"] (spSame (d + 1)) := by
  refine fn3 g.fn sc_same (fun ts H Q h => ?_) (fun cdv A outer s H E ts H3 Q hr h => ?_)
  · obtain ⟨t, _, rfl, _⟩ := h; rfl
  · have hu30 := Room.u30 hr
    have hu31 := Room.u31 hr
    have hu1 := Room.u1 hr
    obtain ⟨t, _, rfl, hs, k⟩ := h
    replace hs : shp d t = true := hs
    refine ⟨_, (ss3_cons (s3_if (t3_val (e3_callB c3_isi rfl B.isinstance_ bt_isinstance (a3_cons (v3 0) (a3_cons (b3_ty rfl B.str_ bt_str) a3_nil)))) (ss3_one (s3_ret (e3_and (e3_callB c3_isi rfl B.isinstance_ bt_isinstance (a3_cons (v3 1) (a3_cons (b3_ty rfl B.str_ bt_str) a3_nil))) (e3_one (e3_cmp (o3_eq hu30) (v3 0) (v3 1)))))) ss3_nil)
        (ss3_cons (s3_if (t3_not (t3_val (e3_callB c3_isi rfl B.isinstance_ bt_isinstance (a3_cons (v3 0) (a3_cons (b3_ty rfl B.tuple_ bt_tuple) a3_nil))))) (ss3_one (s3_ret (e3_and (e3_callB c3_isi rfl B.isinstance_ bt_isinstance (a3_cons (v3 1) (a3_cons (b3_ty rfl B.int_ bt_int) a3_nil))) (e3_and (e3_not (e3_callB c3_isi rfl B.isinstance_ bt_isinstance (a3_cons (v3 1) (a3_cons (b3_ty rfl B.bool_ bt_bool) a3_nil)))) (e3_one (e3_cmp (o3_eq hu30) (v3 0) (v3 1))))))) ss3_nil)
        (ss3_cons (s3_if (PW3.pt (w3_or (t3_not (t3_val (e3_callB c3_isi rfl B.isinstance_ bt_isinstance (a3_cons (v3 1) (a3_cons (b3_ty rfl B.tuple_ bt_tuple) a3_nil))))) (w3_or1 (t3_cmp (o3_ne hu30) (e3_callB c3_len rfl B.len_ bt_len (a3_cons (v3 0) a3_nil)) (e3_callB c3_len rfl B.len_ bt_len (a3_cons (v3 1) a3_nil)))))) (ss3_one (s3_ret c3_bl)) ss3_nil)
        (ss3_one (s3_ret (e3_callB (c3_all rfl) rfl B.all_ bt_all (a3_cons (e3_comp rfl (compSc (n0 := (defScope (top 12)).names) (N := ["_law_one", "_law_other"]) (N' := ["_law_here", "_law_there"]) (nt := 2) (cap := []) rfl rfl (by decide +kernel)) (i3_zip rfl B.zip_ (a3_cons (v3 0) (a3_cons (v3 1) a3_nil))) (fun cl pins s H C fp => ⟨(g3_tup (n := 2) rfl (gs3_cons (g3_name (i := 0) (show List.Nodup [("_law_here" : Str), ("_law_there" : Str)] by decide +kernel)) (gs3_cons (g3_name (i := 1) (show List.Nodup [("_law_here" : Str), ("_law_there" : Str)] by decide +kernel)) gs3_nil))), if3_nil, (e3_call F_same (hr.mono (Nat.le_refl _)) rfl g_same.m g_same.fn.kp g_same.b (a3_cons (v3 0) (a3_cons (v3 1) a3_nil)))⟩)) a3_nil))))))), ?_⟩
    rw [show start3 ["_law_one", "_law_other"] [t, t] = [some (t), some (t)] from rfl]
    cases t with
    | str x =>
      walk_at "rd"
      exact Fin3.of Sub3.refl k
    | int i =>
      walk_at "rd"
      exact Fin3.of Sub3.refl k
    | tup us =>
      cases d with
      | zero => cases hs
      | succ d =>
        have hs' : (decide (us.length ≤ sizeLine) && us.all (shp d)) = true := hs
        rw [Bool.and_eq_true, decide_eq_true_iff, List.all_eq_true] at hs'
        obtain ⟨hl, hs'⟩ := hs'
        walk_at "rd"
        rw [show cap3 2 [] [some (T.tup us), some (T.tup us)] = [none, none] from rfl]
        refine cIter_pure2 id id (fun _ => T.bl true) us [] trivial hl (fun a ha Q' hq => ?_) (fun p hp => ?_)
        · walk_at "rd"
          exact ⟨a, by simp, rfl, hs' a ha, hq⟩
        · rw [bools_true, q_oq, all_true]
          exact Fin3.of (Sub3.new hp) k
    | non => cases d <;> cases hs
    | bl b => cases d <;> cases hs
    | ref a => cases d <;> cases hs
    | ty n => cases d <;> cases hs
def Wk.turn (W : Wk) : Wk := ⟨W.tasks, W.orders.map fun o => (o.2, o.1), W.pairs, W.row.reverse⟩
def spTurn : Sp3 := fun ts H Q => ∃ W : Wk, ts = [W.enc] ∧ W.orders.length ≤ 28 ∧ Q W.turn.enc H
theorem sc_turned_about : FnScope ["works", "orders", "row"] ["works"] (defScope (top 1)) := ⟨rfl, rfl, rfl, by decide +kernel, rfl, by decide +kernel, by decide +kernel⟩
theorem ok_turned_about {f : Addr} {fd : FuncData} (g : G3 K mg "turned_about" (top 1) ["works"] f fd) (B : Bl mg) : FnOk3 P w K mg base 1 f fd ["works"] spTurn := by
  refine fn3 g.fn sc_turned_about (fun ts H Q h => ?_) (fun cdv A outer s H E ts H3 Q hr h => ?_)
  · obtain ⟨t, rfl, _⟩ := h; rfl
  · have hu30 := Room.u30 hr
    have hu31 := Room.u31 hr
    have hu1 := Room.u1 hr
    obtain ⟨⟨tks, ors, prs, row⟩, rfl, hl, k⟩ := h
    refine ⟨_, (ss3_cons (s3_set (i := 1) sc_turned_about.nd (e3_callTy c3_tuple rfl B.tuple_ bt_tuple (a3_cons (e3_comp rfl (compSc (n0 := (defScope (top 1)).names) (N := ["works", "orders", "row"]) (N' := ["one", "other"]) (nt := 2) (cap := []) rfl rfl (by decide +kernel)) (i3_tup (e3_ix ix3 (v3 0) c3_int)) (fun cl pins s H C fp => ⟨(g3_tup (n := 2) rfl (gs3_cons (g3_name (i := 0) (show List.Nodup [("one" : Str), ("other" : Str)] by decide +kernel)) (gs3_cons (g3_name (i := 1) (show List.Nodup [("one" : Str), ("other" : Str)] by decide +kernel)) gs3_nil))), if3_nil, (e3_tup (a3_cons (v3 1) (a3_cons (v3 0) a3_nil)))⟩)) a3_nil)))
        (ss3_cons (s3_set (i := 2) sc_turned_about.nd (e3_tupRev rfl rfl B.tuple_ rfl B.reversed_ (e3_ix ix3 (v3 0) c3_int)))
        (ss3_one (s3_ret (e3_tup (a3_cons (e3_ix ix3 (v3 0) c3_int) (a3_cons (v3 1) (a3_cons (e3_ix ix3 (v3 0) c3_int) (a3_cons (v3 2) a3_nil))))))))), ?_⟩
    rw [show start3 ["works", "orders", "row"] [Wk.enc ⟨tks, ors, prs, row⟩] = [some (T.tup [T.tup (tks.map tkT), T.tup (ors.map orT), T.tup (prs.map prT), T.tup (row.map T.str)]), none, none] from rfl]
    have hsz : sizeLine = 16777216 := rfl
    replace hl : ors.length ≤ 28 := hl
    walk_at "rd"
    rw [show cap3 2 [] [some (T.tup [T.tup (tks.map tkT), T.tup (ors.map orT), T.tup (prs.map prT), T.tup (row.map T.str)]), none, none] = [none, none] from rfl]
    refine cIter_pure2 (fun o : Str × Str => T.str o.1) (fun o => T.str o.2) (fun o => orT (o.2, o.1)) ors [] trivial (by omega) (fun a ha Q' hq => ?_) (fun p hp => ?_)
    · walk_at "rd"
      exact ⟨by decide, hq⟩
    · refine ⟨by decide, Fin3.of (Sub3.new hp) ?_⟩
      have e : (List.map T.str row).reverse = row.reverse.map T.str := by rw [List.map_reverse]
      rw [e]
      simp only [Wk.turn, Wk.enc, sT, List.map_map, Function.comp_def] at k
      exact k
end
end M

set_option Elab.async false
set_option linter.all false
set_option maxRecDepth 100000
set_option maxHeartbeats 4000000
namespace M
open PySem PySem.Spec PyProof.Rows L2 L3
local macro_rules | `(tactic| walk_at "rd") => `(tactic| try simp only [*, ne_eq, not_false_eq_true, up3_ne, tSeq3, tAsg3, tC3, gName3, tFor3, tCons3, tNil3, tRet3, tRetN3, tOp3, tIfS3, tAnd3, tOr3, tNot3, tCB3, tBM3, tDrop3, tNext3, gSub3, tCall3, tTup3, tLst3, tIf3, tSl3, tNoPart3, tYes3, q_vq, q_var, q_bq, q_test, q_chain, q_andV, q_orV, q_notV, q_oq, q_I, q_I0, q_addI, q_addS, q_addT, q_addL, q_catH, q_eqI, q_eqS, q_eqB, q_eqT, q_eqL, q_eqH, q_inT, q_inS, q_inL, q_inH, q_ixL, q_ixH, q_ixT, q_ixS, q_setL, q_stH, q_pq, q_part, q_slL, q_slH, q_slHr, q_slT, q_slS, q_D, q_dgH, q_dput, q_dpH, q_dpO, q_lenL, q_lnH, q_lenT, q_lenS, q_listL, q_liH, q_listT, q_tupL, q_tpH, q_tupT, q_intI, q_intB, q_strI, q_sumL, q_smH, q_tyS, q_tyL, q_tyH, q_app, q_apH, q_ext, q_exH, q_pop, q_poH, q_joinL, q_joH, q_joinT, q_index, q_idH, q_rng, q_rg1, q_rg2, q_iTup, q_tuq, q_iList, q_liq, q_liO, q_gNil, q_gCons, q_gTup, up3_same, lk_c, lk_l, lk_a, lk_s, lk_m, pt_l, pt_a, pt_s, dk_len, cut_31, tDisp3, tComp3, tSetComp3, q_tupRev, q_iZip, q_all, q_alH, zip3_self, qi_str, it_str_str, it_int_str, it_tup_str, it_bl_str, it_non_str, qi_int, it_str_int, it_int_int, it_tup_int, it_bl_int, it_non_int, qi_bool, it_str_bool, it_int_bool, it_tup_bool, it_bl_bool, it_non_bool, qi_tuple, it_str_tuple, it_int_tuple, it_tup_tuple, it_bl_tuple, it_non_tuple, qi_list, it_str_list, it_int_list, it_tup_list, it_bl_list, it_non_list, dec_rfl, decide_true, decide_false, Bool.not_true, Bool.not_false, q_prs0, q_prs1, dk_mrg, ix_z, at0, at1, at2, at3, List.eraseIdx_cons_zero, Int.toNat_natCast, up3_up3, List.length_map, List.length_cons, List.length_nil, Nat.zero_add, Bool.false_eq_true, if_false, if_true, List.getElem?_cons_zero, List.getElem?_cons_succ, List.set_cons_zero, List.set_cons_succ])
section
variable {P : Program} {w : World} {K : PySem.W.Frag} {mg : Str → Option Value} {base : Heap}
def spLaw : Sp3 := fun ts H Q => ∃ (a : Addr) (ns : List Int), ts = [.ref a] ∧ H a = some (.rol (ns.map T.int)) ∧ ns.length ≤ 63 ∧ ∀ H', Q (.bl true) H'
theorem shp_s (n : Nat) (xs : List Str) (h : xs.length ≤ sizeLine) : shp (n + 1) (.tup (xs.map T.str)) = true := by
  show (decide ((xs.map T.str).length ≤ sizeLine) && (xs.map T.str).all (shp n)) = true
  rw [Bool.and_eq_true, decide_eq_true_iff, List.length_map, List.all_eq_true]
  refine ⟨h, fun t ht => ?_⟩
  obtain ⟨x, _, rfl⟩ := List.mem_map.mp ht
  cases n <;> rfl
theorem shp_m {α : Type} (n : Nat) (xs : List α) (f : α → T) (h : xs.length ≤ sizeLine) (hf : ∀ x ∈ xs, shp n (f x) = true) : shp (n + 1) (.tup (xs.map f)) = true := by
  show (decide ((xs.map f).length ≤ sizeLine) && (xs.map f).all (shp n)) = true
  rw [Bool.and_eq_true, decide_eq_true_iff, List.length_map, List.all_eq_true]
  refine ⟨h, fun t ht => ?_⟩
  obtain ⟨x, hx, rfl⟩ := List.mem_map.mp ht
  exact hf x hx
theorem shp_W {W : Wk} (h : WkOk W) : shp 4 W.enc = true := by
  have hsz : sizeLine = 16777216 := rfl
  have h1 : shp 3 (.tup (W.tasks.map tkT)) = true := shp_m 2 _ _ (by have := h.t8; omega) fun t ht => by
    have := shp_s 0 t.2.2 (by have := (h.tk t ht).kl; omega)
    show (decide (3 ≤ sizeLine) && (true && (true && (shp 1 (sT t.2.2) && true)))) = true
    rw [show shp 1 (sT t.2.2) = true from this]
    decide
  have h2 : shp 3 (.tup (W.orders.map orT)) = true := shp_m 2 _ _ (by have := h.os; omega) fun t ht => rfl
  have h3 : shp 3 (.tup (W.pairs.map prT)) = true := shp_m 2 _ _ (by have := h.ps; omega) fun t ht => rfl
  have h4 : shp 3 (sT W.row) = true := shp_s 2 _ (by have := h.r8; omega)
  show (decide (4 ≤ sizeLine) && (shp 3 (.tup (W.tasks.map tkT)) && (shp 3 (.tup (W.orders.map orT)) && (shp 3 (.tup (W.pairs.map prT)) && (shp 3 (sT W.row) && true))))) = true
  rw [h1, h2, h3, h4]
  decide
theorem range_getD {α β : Type} (f : α → β) (d : α) : ∀ xs : List α, (List.range xs.length).map (fun i => f (xs.getD i d)) = xs.map f := fun xs => by
  refine List.ext_getElem (by simp) fun i h1 h2 => ?_
  have hi : i < xs.length := by simpa using h1
  simp [List.getD_eq_getElem?_getD, hi]
theorem Wk.turn_turn (W : Wk) : W.turn.turn = W := by
  obtain ⟨tks, ors, prs, row⟩ := W
  simp [Wk.turn, List.map_map, Function.comp_def]
theorem nodup_map_inj {α β : Type} {f : α → β} (hf : ∀ {a b}, f a = f b → a = b) : ∀ {xs : List α}, xs.Nodup → (xs.map f).Nodup
  | [], _ => List.nodup_nil
  | x :: r, h => by
    rw [List.map_cons, List.nodup_cons]
    rw [List.nodup_cons] at h
    refine ⟨fun hm => ?_, nodup_map_inj hf h.2⟩
    obtain ⟨y, hy, e⟩ := List.mem_map.mp hm
    exact h.1 (hf e ▸ hy)
theorem WkOk.turn {W : Wk} (h : WkOk W) : WkOk W.turn := by
  obtain ⟨a1, a2, a3, a4, a5, a6, a7, a8, a9, a10, a11, a12, a13⟩ := h
  refine ⟨a1, a2, a3, a4, by simpa [Wk.turn] using a5, ?_, fun o ho => ?_, a8, a9, a10, by simpa [Wk.turn] using a11, by simpa [Wk.turn] using a12, fun x hx => a13 x (by simpa [Wk.turn] using hx)⟩
  · exact nodup_map_inj (fun {a b} e => by have := congrArg Prod.fst e; have h2 := congrArg Prod.snd e; exact Prod.ext h2 this) a6
  · obtain ⟨u, hu, rfl⟩ := List.mem_map.mp ho
    obtain ⟨b1, b2, b3⟩ := a7 u hu
    exact ⟨Ne.symm b1, b3, b2⟩
theorem sc_law : FnScope ["_law_script", "_law_deck_here", "_law_works_here", "_law_tasks", "_law_orders", "_law_pairs", "_law_row", "_law_back", "_law_due"] ["_law_script"] (defScope (top 13)) := ⟨rfl, rfl, rfl, by decide +kernel, rfl, by decide +kernel, by decide +kernel⟩
theorem ok_law {f : Addr} {fd : FuncData} (g : G3 K mg "law" (top 13) ["_law_script"] f fd) (B : Bl mg) {f_same : Addr} {fd_same : FuncData} (g_same : G3 K mg "_law_same" (top 12) ["_law_one", "_law_other"] f_same fd_same) (F_same : FnOk3 P w K mg base 5 f_same fd_same ["_law_one", "_law_other"] (spSame 5)) {f_turned_about : Addr} {fd_turned_about : FuncData} (g_turned_about : G3 K mg "turned_about" (top 1) ["works"] f_turned_about fd_turned_about) (F_turned_about : FnOk3 P w K mg base 1 f_turned_about fd_turned_about ["works"] spTurn) {f_works : Addr} {fd_works : FuncData} (g_works : G3 K mg "_law_works" (top 11) ["_law_deck_here"] f_works fd_works) (F_works : FnOk3 P w K mg base 5 f_works fd_works ["_law_deck_here"] spWorks) {f_deck : Addr} {fd_deck : FuncData} (g_deck : G3 K mg "_law_deck" (top 3) ["_law_script"] f_deck fd_deck) (F_deck : FnOk3 P w K mg base 1 f_deck fd_deck ["_law_script"] spDeck) : FnOk3 P w K mg base 6 f fd ["_law_script"] spLaw := by
  refine fn3 g.fn sc_law (fun ts H Q h => ?_) (fun cdv A outer s H E ts H3 Q hr h => ?_)
  · obtain ⟨a, ns, rfl, _⟩ := h; rfl
  · have hu30 := Room.u30 hr
    have hu31 := Room.u31 hr
    have hu1 := Room.u1 hr
    obtain ⟨a, ns, rfl, ha, hl, k⟩ := h
    refine ⟨_, (ss3_cons (s3_set (i := 1) sc_law.nd (e3_call F_deck (hr.mono (by decide)) rfl g_deck.m g_deck.fn.kp g_deck.b (a3_cons (v3 0) a3_nil)))
        (ss3_cons (s3_set (i := 2) sc_law.nd (e3_call F_works (hr.mono (by decide)) rfl g_works.m g_works.fn.kp g_works.b (a3_cons (v3 1) a3_nil)))
        (ss3_cons (s3_asg (v3 2) (g3_tup (n := 4) rfl (gs3_cons (g3_name (i := 3) sc_law.nd) (gs3_cons (g3_name (i := 4) sc_law.nd) (gs3_cons (g3_name (i := 5) sc_law.nd) (gs3_cons (g3_name (i := 6) sc_law.nd) gs3_nil))))))
        (ss3_cons (s3_setC (i := 7) rfl sc_law.nd (compSc (n0 := (defScope (top 13)).names) (N := ["_law_script", "_law_deck_here", "_law_works_here", "_law_tasks", "_law_orders", "_law_pairs", "_law_row", "_law_back", "_law_due"]) (N' := ["_law_k", "_law_orders"]) (nt := 1) (cap := [4]) rfl rfl (by decide +kernel)) (i3_range1 rfl B.range_ (a3_cons (e3_callB c3_len rfl B.len_ bt_len (a3_cons (v3 4) a3_nil)) a3_nil)) (fun cl pins s H C fp => ⟨(g3_name (i := 0) (show List.Nodup [("_law_k" : Str), ("_law_orders" : Str)] by decide +kernel)), if3_nil, (e3_tup (a3_cons (e3_ix ix3 (e3_ix ix3 (v3 1) (v3 0)) c3_int) (a3_cons (e3_ix ix3 (e3_ix ix3 (v3 1) (v3 0)) c3_int) a3_nil)))⟩))
        (ss3_cons (s3_set (i := 8) sc_law.nd (e3_tup (a3_cons (v3 3) (a3_cons (e3_callTy c3_tuple rfl B.tuple_ bt_tuple (a3_cons (v3 7) a3_nil)) (a3_cons (v3 5) (a3_cons (e3_tupRev rfl rfl B.tuple_ rfl B.reversed_ (v3 6)) a3_nil))))))
        (ss3_cons (s3_if (PW3.pt (w3_or (t3_not (t3_val (e3_call F_same (hr.mono (by decide)) rfl g_same.m g_same.fn.kp g_same.b (a3_cons (v3 8) (a3_cons (e3_call F_turned_about (hr.mono (by decide)) rfl g_turned_about.m g_turned_about.fn.kp g_turned_about.b (a3_cons (v3 2) a3_nil)) a3_nil))))) (w3_or1 (t3_cmp (o3_ne hu30) (e3_ix ix3 (v3 2) c3_int) (v3 6))))) (ss3_one (s3_ret c3_bl)) ss3_nil)
        (ss3_one (s3_ret (e3_call F_same (hr.mono (by decide)) rfl g_same.m g_same.fn.kp g_same.b (a3_cons (v3 2) (a3_cons (e3_call F_turned_about (hr.mono (by decide)) rfl g_turned_about.m g_turned_about.fn.kp g_turned_about.b (a3_cons (v3 8) a3_nil)) a3_nil))))))))))), ?_⟩
    rw [show start3 ["_law_script", "_law_deck_here", "_law_works_here", "_law_tasks", "_law_orders", "_law_pairs", "_law_row", "_law_back", "_law_due"] [T.ref a] = [some (T.ref a), none, none, none, none, none, none, none, none] from rfl]
    have hsz : sizeLine = 16777216 := rfl
    walk_at "rd"
    refine ⟨a, ns, rfl, ha, hl, fun d c H1 hS _ _ hD => ?_⟩
    walk_at "rd"
    refine ⟨d, c, rfl, hD, fun W H2 hW hDr => ?_⟩
    obtain ⟨tks, ors, prs, row⟩ := W
    have o28 : ors.length ≤ 28 := hW.os
    rw [show Wk.enc ⟨tks, ors, prs, row⟩ = T.tup [T.tup (tks.map tkT), T.tup (ors.map orT), T.tup (prs.map prT), T.tup (row.map T.str)] from rfl]
    walk_at "rd"
    refine ⟨True.intro, True.intro, by omega, by omega, ?_⟩
    rw [show ∀ x0 x1 x2 x3 x4 x5 x6 x7 x8, cap3 1 [4] [x0, x1, x2, x3, x4, x5, x6, x7, x8] = [none, x4] from fun _ _ _ _ _ _ _ _ _ => rfl]
    unfold rng3
    refine cIter_pure (fun i : Nat => T.int (0 + (i : Int))) (fun i => orT ((ors.getD i ("", "")).2, (ors.getD i ("", "")).1)) (List.range ors.length) [some (T.tup (ors.map orT))] trivial (by simp; omega) (fun i hi Q' hq => ?_) (fun p hp => ?_)
    · have hi' : i < ors.length := List.mem_range.mp hi
      have e0 : (0 : Int) + (i : Int) = (i : Int) := Int.zero_add _
      walk_at "rd"
      have eat : atI (ors.map orT) (i : Int) = some (orT (ors.getD i ("", ""))) := by
        refine atI_nat ?_
        rw [List.getElem?_map, List.getD_eq_getElem?_getD, List.getElem?_eq_getElem hi']
        rfl
      rw [eat]
      walk_at "rd"
      rw [show orT (ors.getD i ("", "")) = T.tup [T.str (ors.getD i ("", "")).1, T.str (ors.getD i ("", "")).2] from rfl]
      walk_at "rd"
      exact ⟨by decide, hq⟩
    have er : (List.range ors.length).map (fun i => orT ((ors.getD i (("" : Str), ("" : Str))).2, (ors.getD i (("" : Str), ("" : Str))).1)) = (ors.map fun o => (o.2, o.1)).map orT := by
      rw [List.map_map]
      exact range_getD (fun o : Str × Str => orT (o.2, o.1)) (("" : Str), ("" : Str)) ors
    rw [er, show (List.map T.str row).reverse = row.reverse.map T.str from List.map_reverse.symm]
    refine ⟨by decide, ⟨tks, ors, prs, row⟩, rfl, o28, ?_⟩
    have hT := shp_W hW.turn
    refine ⟨(Wk.turn ⟨tks, ors, prs, row⟩).enc, by decide, rfl, hT, ?_⟩
    walk_at "rd"
    refine ⟨pl_strs row, pl_strs row, Wk.turn ⟨tks, ors, prs, row⟩, rfl, ?_, ?_⟩
    · show (ors.map fun o => (o.2, o.1)).length ≤ 28
      rw [List.length_map]; exact o28
    · rw [Wk.turn_turn]
      exact ⟨_, by decide, rfl, shp_W hW, Fin3.of (fun b o e => by rw [up3_ne (ne3n e hp)]; exact e) (k H2)⟩
end
end M

set_option Elab.async false
set_option linter.all false
set_option maxRecDepth 100000
set_option maxHeartbeats 4000000
namespace M
open PySem PySem.Spec PyProof.Rows L2 L3
def noList (K : PySem.W.Frag) : Bool := K.all fun p => !(p.2.cls == .type "list")
theorem mem_look {K : PySem.W.Frag} {a : Addr} {o : Obj} (e : K.lookup a = some o) : (a, o) ∈ K := by
  induction K with
  | nil => cases e
  | cons p r ih =>
    obtain ⟨b, u⟩ := p
    rw [List.lookup_cons] at e
    split at e
    · rename_i h
      rw [eq_of_beq h, Option.some.inj e]
      exact List.mem_cons_self
    · exact List.mem_cons_of_mem _ (ih e)
theorem noList_no {K : PySem.W.Frag} (h : noList K = true) {a : Addr} {o : Obj} (e : K.lookup a = some o) : o.cls ≠ .type "list" := fun z => by
  have hm : (a, o) ∈ K := mem_look e
  have q := List.all_eq_true.mp h (a, o) hm
  rw [z] at q
  simp at q
theorem g_mk {K : PySem.W.Frag} {h : Heap} {mg : Str → Option Value} {x : Str} {st : Stmt} {ps : List Str} {f : Addr} {oc : Value} {od an : Option Addr} {osl : Array (Option Value)} {kV doc pm cdv ct : Value} (X : K.In h) (G : h.Ns mainGlobals mg)
    (a : PySem.W.nsIn K mainGlobals x = some (some (.ref f))) (l : K.lookup f = some ⟨oc, od, .func (PySem.W.fnOf x x (defArgs st) (defBody st) (defScope st) .none kV doc pm an cdv ct), osl⟩) (c : PySem.W.codeIn K cdv x = true) (k : PySem.W.keepIn K (.ref f) = true)
    (hb : ∀ (kV doc pm : Value) (an : Option Addr) (cdv ct : Value) (us : List Value), us.length = ps.length → bindArgs (PySem.W.fnOf x x (defArgs st) (defBody st) (defScope st) .none kV doc pm an cdv ct) ⟨us, []⟩ = pure (ps.zip us)) :
    G3 K mg x st ps f (PySem.W.fnOf x x (defArgs st) (defBody st) (defScope st) .none kV doc pm an cdv ct) :=
  have F := fun_mk (st := st) l c k
  ⟨F, F.binds hb, PySem.W.mg_of X G a⟩
theorem all_mk {l : PySem.W.OpenLaw} {w : World} {K : PySem.W.Frag} {h : Heap} {mg : Str → Option Value} {fa : Addr} (X : K.In h) (G : h.Ns mainGlobals mg) (hfa : mg "law" = some (.ref fa))
    {f0 : Addr} {oc0 kV0 dc0 pm0 cd0 ct0 : Value} {od0 an0 : Option Addr} {sl0 : Array (Option Value)} (a0 : PySem.W.nsIn K mainGlobals "turned_about" = some (some (.ref f0))) (l0 : K.lookup f0 = some ⟨oc0, od0, .func (PySem.W.fnOf "turned_about" "turned_about" (defArgs (top 1)) (defBody (top 1)) (defScope (top 1)) .none kV0 dc0 pm0 an0 cd0 ct0), sl0⟩) (c0 : PySem.W.codeIn K cd0 "turned_about" = true) (k0 : PySem.W.keepIn K (.ref f0) = true)
    {f1 : Addr} {oc1 kV1 dc1 pm1 cd1 ct1 : Value} {od1 an1 : Option Addr} {sl1 : Array (Option Value)} (a1 : PySem.W.nsIn K mainGlobals "_law_deck" = some (some (.ref f1))) (l1 : K.lookup f1 = some ⟨oc1, od1, .func (PySem.W.fnOf "_law_deck" "_law_deck" (defArgs (top 3)) (defBody (top 3)) (defScope (top 3)) .none kV1 dc1 pm1 an1 cd1 ct1), sl1⟩) (c1 : PySem.W.codeIn K cd1 "_law_deck" = true) (k1 : PySem.W.keepIn K (.ref f1) = true)
    {f2 : Addr} {oc2 kV2 dc2 pm2 cd2 ct2 : Value} {od2 an2 : Option Addr} {sl2 : Array (Option Value)} (a2 : PySem.W.nsIn K mainGlobals "_law_next" = some (some (.ref f2))) (l2 : K.lookup f2 = some ⟨oc2, od2, .func (PySem.W.fnOf "_law_next" "_law_next" (defArgs (top 4)) (defBody (top 4)) (defScope (top 4)) .none kV2 dc2 pm2 an2 cd2 ct2), sl2⟩) (c2 : PySem.W.codeIn K cd2 "_law_next" = true) (k2 : PySem.W.keepIn K (.ref f2) = true)
    {f3 : Addr} {oc3 kV3 dc3 pm3 cd3 ct3 : Value} {od3 an3 : Option Addr} {sl3 : Array (Option Value)} (a3 : PySem.W.nsIn K mainGlobals "_law_great" = some (some (.ref f3))) (l3 : K.lookup f3 = some ⟨oc3, od3, .func (PySem.W.fnOf "_law_great" "_law_great" (defArgs (top 5)) (defBody (top 5)) (defScope (top 5)) .none kV3 dc3 pm3 an3 cd3 ct3), sl3⟩) (c3 : PySem.W.codeIn K cd3 "_law_great" = true) (k3 : PySem.W.keepIn K (.ref f3) = true)
    {f4 : Addr} {oc4 kV4 dc4 pm4 cd4 ct4 : Value} {od4 an4 : Option Addr} {sl4 : Array (Option Value)} (a4 : PySem.W.nsIn K mainGlobals "_law_word" = some (some (.ref f4))) (l4 : K.lookup f4 = some ⟨oc4, od4, .func (PySem.W.fnOf "_law_word" "_law_word" (defArgs (top 6)) (defBody (top 6)) (defScope (top 6)) .none kV4 dc4 pm4 an4 cd4 ct4), sl4⟩) (c4 : PySem.W.codeIn K cd4 "_law_word" = true) (k4 : PySem.W.keepIn K (.ref f4) = true)
    {f5 : Addr} {oc5 kV5 dc5 pm5 cd5 ct5 : Value} {od5 an5 : Option Addr} {sl5 : Array (Option Value)} (a5 : PySem.W.nsIn K mainGlobals "_law_words" = some (some (.ref f5))) (l5 : K.lookup f5 = some ⟨oc5, od5, .func (PySem.W.fnOf "_law_words" "_law_words" (defArgs (top 7)) (defBody (top 7)) (defScope (top 7)) .none kV5 dc5 pm5 an5 cd5 ct5), sl5⟩) (c5 : PySem.W.codeIn K cd5 "_law_words" = true) (k5 : PySem.W.keepIn K (.ref f5) = true)
    {f6 : Addr} {oc6 kV6 dc6 pm6 cd6 ct6 : Value} {od6 an6 : Option Addr} {sl6 : Array (Option Value)} (a6 : PySem.W.nsIn K mainGlobals "_law_length" = some (some (.ref f6))) (l6 : K.lookup f6 = some ⟨oc6, od6, .func (PySem.W.fnOf "_law_length" "_law_length" (defArgs (top 8)) (defBody (top 8)) (defScope (top 8)) .none kV6 dc6 pm6 an6 cd6 ct6), sl6⟩) (c6 : PySem.W.codeIn K cd6 "_law_length" = true) (k6 : PySem.W.keepIn K (.ref f6) = true)
    {f7 : Addr} {oc7 kV7 dc7 pm7 cd7 ct7 : Value} {od7 an7 : Option Addr} {sl7 : Array (Option Value)} (a7 : PySem.W.nsIn K mainGlobals "_law_task" = some (some (.ref f7))) (l7 : K.lookup f7 = some ⟨oc7, od7, .func (PySem.W.fnOf "_law_task" "_law_task" (defArgs (top 9)) (defBody (top 9)) (defScope (top 9)) .none kV7 dc7 pm7 an7 cd7 ct7), sl7⟩) (c7 : PySem.W.codeIn K cd7 "_law_task" = true) (k7 : PySem.W.keepIn K (.ref f7) = true)
    {f8 : Addr} {oc8 kV8 dc8 pm8 cd8 ct8 : Value} {od8 an8 : Option Addr} {sl8 : Array (Option Value)} (a8 : PySem.W.nsIn K mainGlobals "_law_tied" = some (some (.ref f8))) (l8 : K.lookup f8 = some ⟨oc8, od8, .func (PySem.W.fnOf "_law_tied" "_law_tied" (defArgs (top 10)) (defBody (top 10)) (defScope (top 10)) .none kV8 dc8 pm8 an8 cd8 ct8), sl8⟩) (c8 : PySem.W.codeIn K cd8 "_law_tied" = true) (k8 : PySem.W.keepIn K (.ref f8) = true)
    {f9 : Addr} {oc9 kV9 dc9 pm9 cd9 ct9 : Value} {od9 an9 : Option Addr} {sl9 : Array (Option Value)} (a9 : PySem.W.nsIn K mainGlobals "_law_works" = some (some (.ref f9))) (l9 : K.lookup f9 = some ⟨oc9, od9, .func (PySem.W.fnOf "_law_works" "_law_works" (defArgs (top 11)) (defBody (top 11)) (defScope (top 11)) .none kV9 dc9 pm9 an9 cd9 ct9), sl9⟩) (c9 : PySem.W.codeIn K cd9 "_law_works" = true) (k9 : PySem.W.keepIn K (.ref f9) = true)
    {f10 : Addr} {oc10 kV10 dc10 pm10 cd10 ct10 : Value} {od10 an10 : Option Addr} {sl10 : Array (Option Value)} (a10 : PySem.W.nsIn K mainGlobals "_law_same" = some (some (.ref f10))) (l10 : K.lookup f10 = some ⟨oc10, od10, .func (PySem.W.fnOf "_law_same" "_law_same" (defArgs (top 12)) (defBody (top 12)) (defScope (top 12)) .none kV10 dc10 pm10 an10 cd10 ct10), sl10⟩) (c10 : PySem.W.codeIn K cd10 "_law_same" = true) (k10 : PySem.W.keepIn K (.ref f10) = true)
    {f11 : Addr} {oc11 kV11 dc11 pm11 cd11 ct11 : Value} {od11 an11 : Option Addr} {sl11 : Array (Option Value)} (a11 : PySem.W.nsIn K mainGlobals "law" = some (some (.ref f11))) (l11 : K.lookup f11 = some ⟨oc11, od11, .func (PySem.W.fnOf "law" "law" (defArgs (top 13)) (defBody (top 13)) (defScope (top 13)) .none kV11 dc11 pm11 an11 cd11 ct11), sl11⟩) (c11 : PySem.W.codeIn K cd11 "law" = true) (k11 : PySem.W.keepIn K (.ref f11) = true) (z0 : PySem.W.nsIn K mainGlobals "len" = some none) (z1 : PySem.W.nsIn K mainGlobals "sum" = some none) (z2 : PySem.W.nsIn K mainGlobals "isinstance" = some none) (z3 : PySem.W.nsIn K mainGlobals "all" = some none) (z4 : PySem.W.nsIn K mainGlobals "any" = some none) (z5 : PySem.W.nsIn K mainGlobals "list" = some none) (z6 : PySem.W.nsIn K mainGlobals "tuple" = some none) (z7 : PySem.W.nsIn K mainGlobals "int" = some none) (z8 : PySem.W.nsIn K mainGlobals "str" = some none) (z9 : PySem.W.nsIn K mainGlobals "bool" = some none) (z10 : PySem.W.nsIn K mainGlobals "range" = some none) (z11 : PySem.W.nsIn K mainGlobals "zip" = some none) (z12 : PySem.W.nsIn K mainGlobals "reversed" = some none) (z13 : PySem.W.nsIn K mainGlobals "enumerate" = some none) :
    ∃ fd : FuncData, (∀ (s : Shared) (v : Value), BindsTo s fd ⟨[v], []⟩ [("_law_script", v)]) ∧ ∀ base : Heap, K.In base → base.Ns mainGlobals mg → FnOk3 l.prog w K mg base 6 fa fd ["_law_script"] spLaw := by
  have e := hfa.symm.trans (PySem.W.mg_of X G a11)
  cases e
  have B : Bl mg := ⟨PySem.W.mg_none_of X G z0, PySem.W.mg_none_of X G z1, PySem.W.mg_none_of X G z2, PySem.W.mg_none_of X G z3, PySem.W.mg_none_of X G z4, PySem.W.mg_none_of X G z5, PySem.W.mg_none_of X G z6, PySem.W.mg_none_of X G z7, PySem.W.mg_none_of X G z8, PySem.W.mg_none_of X G z9, PySem.W.mg_none_of X G z10, PySem.W.mg_none_of X G z11, PySem.W.mg_none_of X G z12, PySem.W.mg_none_of X G z13⟩
  have g_turned_about := g_mk (st := top 1) (ps := ["works"]) X G a0 l0 c0 k0 fun _ _ _ _ _ _ us hl => match us, hl with | [_], _ => rfl
  have g_deck := g_mk (st := top 3) (ps := ["_law_script"]) X G a1 l1 c1 k1 fun _ _ _ _ _ _ us hl => match us, hl with | [_], _ => rfl
  have g_next := g_mk (st := top 4) (ps := ["_law_deck_here"]) X G a2 l2 c2 k2 fun _ _ _ _ _ _ us hl => match us, hl with | [_], _ => rfl
  have g_great := g_mk (st := top 5) (ps := ["_law_deck_here"]) X G a3 l3 c3 k3 fun _ _ _ _ _ _ us hl => match us, hl with | [_], _ => rfl
  have g_word := g_mk (st := top 6) (ps := ["_law_deck_here", "_law_words_here"]) X G a4 l4 c4 k4 fun _ _ _ _ _ _ us hl => match us, hl with | [_, _], _ => rfl
  have g_words := g_mk (st := top 7) (ps := ["_law_deck_here", "_law_many"]) X G a5 l5 c5 k5 fun _ _ _ _ _ _ us hl => match us, hl with | [_, _], _ => rfl
  have g_length := g_mk (st := top 8) (ps := ["_law_deck_here"]) X G a6 l6 c6 k6 fun _ _ _ _ _ _ us hl => match us, hl with | [_], _ => rfl
  have g_task := g_mk (st := top 9) (ps := ["_law_deck_here", "_law_name", "_law_some"]) X G a7 l7 c7 k7 fun _ _ _ _ _ _ us hl => match us, hl with | [_, _, _], _ => rfl
  have g_tied := g_mk (st := top 10) (ps := ["_law_deck_here", "_law_names"]) X G a8 l8 c8 k8 fun _ _ _ _ _ _ us hl => match us, hl with | [_, _], _ => rfl
  have g_works := g_mk (st := top 11) (ps := ["_law_deck_here"]) X G a9 l9 c9 k9 fun _ _ _ _ _ _ us hl => match us, hl with | [_], _ => rfl
  have g_same := g_mk (st := top 12) (ps := ["_law_one", "_law_other"]) X G a10 l10 c10 k10 fun _ _ _ _ _ _ us hl => match us, hl with | [_, _], _ => rfl
  have g_law := g_mk (st := top 13) (ps := ["_law_script"]) X G a11 l11 c11 k11 fun _ _ _ _ _ _ us hl => match us, hl with | [_], _ => rfl
  refine ⟨PySem.W.fnOf "law" "law" (defArgs (top 13)) (defBody (top 13)) (defScope (top 13)) .none kV11 dc11 pm11 an11 cd11 ct11, fun s v => .of_eq rfl, fun base _ _ => ?_⟩
  have F_next := ok_next (P := l.prog) (w := w) (base := base) g_next B
  have F_great := ok_great (P := l.prog) (w := w) (base := base) g_great B g_next F_next
  have F_word := ok_word (P := l.prog) (w := w) (base := base) g_word B g_next F_next
  have F_words := ok_words (P := l.prog) (w := w) (base := base) g_words B g_word F_word
  have F_length := ok_length (P := l.prog) (w := w) (base := base) g_length B g_great F_great g_next F_next
  have F_task := ok_task (P := l.prog) (w := w) (base := base) g_task B g_length F_length g_next F_next
  have F_tied := ok_tied (P := l.prog) (w := w) (base := base) g_tied B g_next F_next
  have F_works := ok_works (P := l.prog) (w := w) (base := base) g_works B g_next F_next g_tied F_tied g_task F_task g_words F_words
  have F_deck := ok_deck (P := l.prog) (w := w) (base := base) g_deck B
  have S1 := ok_same (P := l.prog) (w := w) (base := base) (d := 0) g_same B g_same (fn3_none fun ts H Q ⟨t, h, _⟩ => h rfl)
  have S2 := ok_same (P := l.prog) (w := w) (base := base) g_same B g_same S1
  have S3 := ok_same (P := l.prog) (w := w) (base := base) g_same B g_same S2
  have S4 := ok_same (P := l.prog) (w := w) (base := base) g_same B g_same S3
  have F_same := ok_same (P := l.prog) (w := w) (base := base) g_same B g_same S4
  have F_ta := ok_turned_about (P := l.prog) (w := w) (base := base) g_turned_about B
  exact ok_law (P := l.prog) (w := w) (base := base) g_law B g_same F_same g_turned_about F_ta g_works F_works g_deck F_deck
theorem walk {l : PySem.W.OpenLaw} {q : Program} {loose : List Str} {XP : (Str → Option Value) → Heap → Prop} {YP : World → Heap → Prop} {d : DefRec} {K : Params → PySem.W.Frag} (hn : l.most = some 63) (hdf : d.params.defaults = [])
    (hY : ∀ (w : World) (h : Heap), YP w h → (K w.params).In h) (hNL : ∀ w : World, noList (K w.params) = true)
    (F : ∀ (w : World) (mg : Str → Option Value) (fa : Addr) (h : Heap), (K w.params).In h → h.Ns mainGlobals mg → mg d.name = some (.ref fa) →
      ∃ fd : FuncData, (∀ (s : Shared) (u : Value), BindsTo s fd ⟨[u], []⟩ [("_law_script", u)]) ∧ ∀ base : Heap, (K w.params).In base → base.Ns mainGlobals mg → FnOk3 l.prog w (K w.params) mg base 6 fa fd ["_law_script"] spLaw) :
    PySem.W.WalkO q loose XP YP l.row.toRowW d [] (fun f vs => PySem.call f vs) := by
  refine L2.walk_of (n := 63) (k := 6) (x := "_law_script") (CX := fun _ => CX0) (sp := fun w => lftSp (K w.params) spLaw) hn (by decide) hdf ⟨rfl, by decide, by decide⟩ hY F (fun w H a ns hl hO hS => ?_) fun _ _ _ _ _ z => z
  refine ⟨[.ref a], fun b => if b = a then some (.rol (ns.map T.int)) else none, fun t _ => t = .bl true, .cons .ofRef .nil, fun b o e => ?_, ⟨a, ns, rfl, if_pos rfl, hl, fun _ => rfl⟩, fun v H' t H3' _ _ r q => ?_⟩
  · dsimp only at e
    by_cases hb : b = a
    · rw [if_pos hb] at e
      cases e
      subst hb
      rcases hS with hS | ⟨o, its, n, hk, hc, _⟩
      · refine ⟨_, hS, ?_⟩
        have : ∀ ms : List Int, Reps (K w.params) H (ms.map T.int) (ms.map V.int) := fun ms => by
          induction ms with
          | nil => exact .nil
          | cons m r ih => exact .cons .ofInt ih
        exact this ns
      · exact absurd hc (noList_no (hNL w) hk)
    · rw [if_neg hb] at e
      cases e
  · subst q
    exact r.bl
end M
open PySem PySem.W PyProof.Rows
set_option maxRecDepth 100000 in
set_option maxHeartbeats 0 in
theorem PySem.Challenge.cw_stationrow_k05_turned_about_holds : PySem.Challenge.rw_stationrow_k05_turned_about.Holds := by
  w_on; o_law; k_head; (case hw => w_witness2)
  k_fill
  refine M.walk (l := PySem.Challenge.rw_stationrow_k05_turned_about) rfl rfl (fun w h Y => PySem.W.kIn_of Y) ?NL ?F
  case NL =>
    intro w
    first | rfl | with_unfolding_all rfl | decide
  case F =>
    intro w mg fa h KX G hmg
    refine' M.all_mk KX G hmg ?a0 ?l0 ?c0 ?k0 ?a1 ?l1 ?c1 ?k1 ?a2 ?l2 ?c2 ?k2 ?a3 ?l3 ?c3 ?k3 ?a4 ?l4 ?c4 ?k4 ?a5 ?l5 ?c5 ?k5 ?a6 ?l6 ?c6 ?k6 ?a7 ?l7 ?c7 ?k7 ?a8 ?l8 ?c8 ?k8 ?a9 ?l9 ?c9 ?k9 ?a10 ?l10 ?c10 ?k10 ?a11 ?l11 ?c11 ?k11 ?z0 ?z1 ?z2 ?z3 ?z4 ?z5 ?z6 ?z7 ?z8 ?z9 ?z10 ?z11 ?z12 ?z13
    (case a0 => k_is); (case l0 => k_is); (case c0 => k_is); (case k0 => k_is)
    (case a1 => k_is); (case l1 => k_is); (case c1 => k_is); (case k1 => k_is)
    (case a2 => k_is); (case l2 => k_is); (case c2 => k_is); (case k2 => k_is)
    (case a3 => k_is); (case l3 => k_is); (case c3 => k_is); (case k3 => k_is)
    (case a4 => k_is); (case l4 => k_is); (case c4 => k_is); (case k4 => k_is)
    (case a5 => k_is); (case l5 => k_is); (case c5 => k_is); (case k5 => k_is)
    (case a6 => k_is); (case l6 => k_is); (case c6 => k_is); (case k6 => k_is)
    (case a7 => k_is); (case l7 => k_is); (case c7 => k_is); (case k7 => k_is)
    (case a8 => k_is); (case l8 => k_is); (case c8 => k_is); (case k8 => k_is)
    (case a9 => k_is); (case l9 => k_is); (case c9 => k_is); (case k9 => k_is)
    (case a10 => k_is); (case l10 => k_is); (case c10 => k_is); (case k10 => k_is)
    (case a11 => k_is); (case l11 => k_is); (case c11 => k_is); (case k11 => k_is)
    (case z0 => k_is); (case z1 => k_is); (case z2 => k_is); (case z3 => k_is); (case z4 => k_is); (case z5 => k_is); (case z6 => k_is); (case z7 => k_is); (case z8 => k_is); (case z9 => k_is); (case z10 => k_is); (case z11 => k_is); (case z12 => k_is); (case z13 => k_is)
#print axioms PySem.Challenge.cw_stationrow_k05_turned_about_holds
