import PyProof.Rows.All
import Wide.All
import OpenK.AllK
import Wide.FinOn
import Lean
import PyProof.EqAt
import PyProof.EqKinds
import PyProof.TupleCall
import PySem.Challenge.RW_unitshares_k03_no_ways
set_option Elab.async false
set_option linter.all false
set_option maxRecDepth 100000
/-! THE HAND LAYER, for ints, bools, texts, own classes, LISTS and tuples (index, slices, in, append, pop ..), calls, loops. Paste it whole ahead of your own text; what your proof does not reach may be deleted. -/
namespace L2
open PySem PySem.Spec PyProof.Rows

/-- a key: an int or a str -/
abbrev Key := Sum Int Str
def keyIs : Key → Value → Bool
  | .inl k, v => Value.isInt k v
  | .inr x, v => Value.isStrOf x v
def keyH (w : World) : Key → Int
  | .inl k => hashInt k
  | .inr x => hashStr w x
theorem keyIs_shape : ∀ {k : Key} {v : Value}, keyIs k v = true → (∃ i t, k = Sum.inl i ∧ v = Value.int i t) ∨ (∃ x t, k = Sum.inr x ∧ v = Value.str x t)
  | .inl i, v, h => by
    obtain ⟨t, e⟩ := Value.isInt_shape (k := i) (v := v) h
    exact .inl ⟨i, t, rfl, e⟩
  | .inr x, v, h => by
    obtain ⟨t, e⟩ := Value.isStrOf_shape (x := x) (v := v) h
    exact .inr ⟨x, t, rfl, e⟩
theorem keyIs_int (i : Int) (t : Tok) : keyIs (.inl i) (.int i t) = true := by simp [keyIs, Value.isInt]
theorem keyIs_str (x : Str) (t : Tok) : keyIs (.inr x) (.str x t) = true := by simp [keyIs, Value.isStrOf]
theorem key_ll (a b : Int) : decide ((Sum.inl a : Key) = Sum.inl b) = (a == b) := by
  by_cases e : a = b
  · subst e; simp
  · have h : ¬ (Sum.inl a : Key) = Sum.inl b := fun q => e (Sum.inl.inj q)
    rw [decide_eq_false h]
    exact (beq_eq_false_iff_ne.mpr e).symm
theorem key_rr (a b : Str) : decide ((Sum.inr a : Key) = Sum.inr b) = decide (a = b) := by
  by_cases e : a = b
  · subst e; simp
  · have h : ¬ (Sum.inr a : Key) = Sum.inr b := fun q => e (Sum.inr.inj q)
    rw [decide_eq_false h, decide_eq_false e]
theorem key_lr (a : Int) (b : Str) : decide ((Sum.inl a : Key) = Sum.inr b) = false := decide_eq_false (fun q => nomatch q)
theorem key_rl (a : Str) (b : Int) : decide ((Sum.inr a : Key) = Sum.inl b) = false := decide_eq_false (fun q => nomatch q)

def mixKind (prog : Program) (w : World) : PySem.KeyKind prog w Key where
  is := keyIs
  hash := keyH w
  inj := fun v a b ha hb => by
    rcases keyIs_shape ha with ⟨i, t, rfl, rfl⟩ | ⟨x, t, rfl, rfl⟩
    · rcases keyIs_shape hb with ⟨j, u, rfl, e⟩ | ⟨y, u, rfl, e⟩
      · injection e with e1 _; rw [e1]
      · exact nomatch e
    · rcases keyIs_shape hb with ⟨j, u, rfl, e⟩ | ⟨y, u, rfl, e⟩
      · exact nomatch e
      · injection e with e1 _; rw [e1]
  byValue := fun k v h => by
    rcases keyIs_shape h with ⟨i, t, rfl, rfl⟩ | ⟨x, t, rfl, rfl⟩ <;> rfl
  pyHash := fun hv h => by
    rcases keyIs_shape hv with ⟨i, t, rfl, rfl⟩ | ⟨x, t, rfl, rfl⟩
    · exact wpAny_pyHash_int h
    · exact wpAny_pyHash_str h
  eqBool := fun hu hv h => by
    rcases keyIs_shape hu with ⟨i, t, rfl, rfl⟩ | ⟨x, t, rfl, rfl⟩
    · rcases keyIs_shape hv with ⟨j, u, rfl, rfl⟩ | ⟨y, u, rfl, rfl⟩
      · rw [key_ll] at h; exact wpAny_eqBool_int h
      · rw [key_lr] at h; exact SeqAt.EqAt.int_str i t y u _ _ _ _ h
    · rcases keyIs_shape hv with ⟨j, u, rfl, rfl⟩ | ⟨y, u, rfl, rfl⟩
      · rw [key_rl] at h; exact SeqAt.EqAt.str_int x t j u _ _ _ _ h
      · rw [key_rr] at h; exact wpAny_eqBool_str h
  «strs» := fun k x t v h => by
    rcases keyIs_shape h with ⟨i, u, rfl, e⟩ | ⟨y, u, rfl, e⟩
    · exact nomatch e
    · injection e with e1 _
      subst e1
      cases v <;> rfl

theorem mixKind_int (prog : Program) (w : World) (i : Int) (t : Tok) : (mixKind prog w).is (.inl i) (.int i t) = true := keyIs_int i t
theorem mixKind_str (prog : Program) (w : World) (x : Str) (t : Tok) : (mixKind prog w).is (.inr x) (.str x t) = true := keyIs_str x t
end L2

namespace L2
open PySem PySem.Spec PyProof.Rows

/-- a value, without the heap -/
inductive V where
  | non | bl (b : Bool) | int (i : Int) | str (x : Str) | byt (b : Array UInt8) | flt (b : UInt64) | ref (a : Addr) | ty (n : String)
  deriving DecidableEq

def RelV : V → Value → Prop
  | .non, u => u = Value.none
  | .bl b, u => u = Value.bool b
  | .int i, u => ∃ t, u = Value.int i t
  | .str x, u => ∃ t, u = Value.str x t
  | .byt b, u => ∃ t, u = Value.bytes b t
  | .flt b, u => ∃ t, u = Value.float b t
  | .ref a, u => u = Value.ref a
  | .ty n, u => u = Value.type n

abbrev Vals : List V → List Value → Prop := Paired RelV
theorem Vals.length {xs : List V} {us : List Value} (r : Vals xs us) : xs.length = us.length := Paired.length r
theorem Vals.get : ∀ {xs : List V} {us : List Value} {i : Nat} {x : V}, Vals xs us → xs[i]? = some x → ∃ u, us[i]? = some u ∧ RelV x u
  | _, _, _, _, .nil, e => by simp at e
  | _, _, 0, _, .cons r _, e => by simp at e; subst e; exact ⟨_, rfl, r⟩
  | _, _, i + 1, x, .cons _ t, e => by
    obtain ⟨u, h1, h2⟩ := Vals.get (i := i) (x := x) t (by simpa using e)
    exact ⟨u, by simpa using h1, h2⟩
theorem Vals.set {x : V} {u : Value} (r : RelV x u) : ∀ {xs : List V} {us : List Value} (i : Nat), Vals xs us → Vals (xs.set i x) (us.set i u)
  | _, _, _, .nil => .nil
  | _, _, 0, .cons _ t => .cons r t
  | _, _, i + 1, .cons q t => .cons q (Vals.set r i t)
theorem Vals.append : ∀ {xs ys : List V} {us ws : List Value}, Vals xs us → Vals ys ws → Vals (xs ++ ys) (us ++ ws)
  | _, _, _, _, .nil, s => s
  | _, _, _, _, .cons r t, s => .cons r (Vals.append t s)
theorem Vals.take : ∀ {xs : List V} {us : List Value} (n : Nat), Vals xs us → Vals (xs.take n) (us.take n)
  | _, _, 0, _ => .nil
  | _, _, _ + 1, .nil => .nil
  | _, _, n + 1, .cons r t => .cons r (Vals.take n t)
theorem Vals.drop : ∀ {xs : List V} {us : List Value} (n : Nat), Vals xs us → Vals (xs.drop n) (us.drop n)
  | _, _, 0, r => r
  | _, _, _ + 1, .nil => .nil
  | _, _, n + 1, .cons _ t => Vals.drop n t
theorem Vals.none_of : ∀ {xs : List V} {us : List Value} {i : Nat}, Vals xs us → xs[i]? = none → us[i]? = none := fun {xs us i} r e => by
  have h1 := r.length
  have h2 : xs.length ≤ i := List.getElem?_eq_none_iff.mp e
  exact List.getElem?_eq_none_iff.mpr (by omega)

def RelO : Option V → Option Value → Prop
  | some v, some u => RelV v u
  | none, none => True
  | _, _ => False
def KV {κ : Type} : List (κ × V) → List (κ × Value) → Prop := Paired fun (p : κ × V) (q : κ × Value) => p.1 = q.1 ∧ RelV p.2 q.2

/-- a key of a dict (00_mix): an int or a text -/
def kV : Key → V
  | .inl i => .int i
  | .inr x => .str x

/-- what stands at a tracked address -/
inductive HO where
  /-- a list -/
  | lst (xs : List V)
  /-- a tuple (never changes) -/
  | tup (xs : List V)
  /-- a dict whose keys are ints and texts; one whose keys are tuples of ints and texts (the empty one is both) -/
  | dK (kvs : List (Key × V)) | dT (kvs : List (List Key × V))
  /-- a set of ints: its members, its size -/
  | set (S : Int → Bool) (n : Nat)
  /-- an instance of the class at C, its dict at dx, its attributes -/
  | ins (C dx : Addr) (fs : List (Str × V))
  /-- the dict of the instance at x -/
  | own (x : Addr)
  /-- the dict of an exception -/
  | xd (fs : List (Str × V))
  /-- a bound method, f of x -/
  | met (f x : Addr)
  /-- a range object lo, lo + 1, .. below hi -/
  | rng (lo hi : Int)
  /-- a thing that is known to the object (the script; a dict while a loop walks it): read, never written while it is so -/
  | frz (o : Obj) (u : HO)
  /-- a code object's table -/
  | tbl (ps : Array Value)
  /-- any other thing, by what is true of its one object (a def of one's own: SetO a S n := HO.ext fun h => ..) -/
  | ext (φ : Heap → Prop)

abbrev Hp := Addr → Option HO
def upd (H : Hp) (a : Addr) (o : HO) : Hp := fun b => if b = a then some o else H b
theorem upd_same {H : Hp} {a : Addr} {o : HO} : upd H a o a = some o := by unfold upd; rw [if_pos rfl]
theorem upd_ne {H : Hp} {a b : Addr} {o : HO} (h : b ≠ a) : upd H a o b = H b := by unfold upd; rw [if_neg h]
/-- two objects of different content stand apart -/
theorem ne_of {H : Hp} {a b : Addr} {o u : HO} (h : H a = some o) (h' : H b = some u) (d : o ≠ u) : a ≠ b := by
  intro e; subst e; rw [h] at h'; exact d (Option.some.inj h')
theorem ne_of_none {H : Hp} {a b : Addr} {o : HO} (h : H a = some o) (h' : H b = none) : a ≠ b := by
  intro e; subst e; rw [h] at h'; cases h'

section
variable (P : Program) (w : World)
def ObjOk (H : Hp) (h : Heap) (a : Addr) : HO → Prop
  | .lst xs => xs.length ≤ sizeLine ∧ ∃ (its : List Value) (n : Nat), Vals xs its ∧ h.get? a = some { cls := .type "list", data := .seq its.toArray n }
  | .tup xs => xs.length ≤ sizeLine ∧ ∃ its : List Value, Vals xs its ∧ IsTup h a its.toArray
  | .dK kvs => kvs.length ≤ sizeLine ∧ (a == sysModules) = false ∧ ∃ vs, KV kvs vs ∧ h.DictOf (mixKind P w) a vs
  | .dT kvs => kvs.length ≤ sizeLine ∧ (a == sysModules) = false ∧ ∃ xs : List (List Key × Addr × Value),
      Paired (fun (p : List Key × V) (q : List Key × Addr × Value) => p.1 = q.1 ∧ H q.2.1 = some (.tup (p.1.map kV)) ∧ RelV p.2 q.2.2) kvs xs ∧
      ∃ o es ep, h.get? a = some o ∧ o.ExactDict ∧ o.data = .dict es ep ∧ es.toList = xs.map (entryOfKey (tupleKind (mixKind P w))) ∧ (xs.map (·.1)).Nodup
  | .set S n => h.SetOf (intKind P w) a S n
  | .ins C dx fs => H dx = some (.own a) ∧ fs.length ≤ 1000 ∧ dx ≠ a ∧ h.get? a = some (PySem.W.instObj C dx) ∧
      ∃ mA, h.Ns1 dx mA ∧ (∀ f, RelO (fs.lookup f) (mA f)) ∧ PySem.Within mA (fs.map (·.1))
  | .own _ => ∃ o, h.get? a = some o
  | .xd fs => ∃ mA, h.Ns1 a mA ∧ ∀ f, RelO (fs.lookup f) (mA f)
  | .rng lo hi => ∃ t u v, h.get? a = some { cls := .type "range", data := .fields #[.int lo t, .int hi u, .int 1 v] }
  | .frz o u => h.get? a = some o ∧ ObjOk H h a u
  | .tbl ps => h.get? a = some { cls := .none, data := .fields ps }
  | .met f x => h.get? a = some (PySem.W.methodObj (.ref f) (.ref x))
  | .ext φ => φ h ∧ (∃ o, h.get? a = some o) ∧ ∀ h1 h2 : Heap, φ h1 → (∀ o, h1.get? a = some o → h2.get? a = some o) → φ h2
/-- the abstract heap is held -/
def HOk (H : Hp) (h : Heap) : Prop := ∀ a o, H a = some o → ObjOk P w H h a o
end

section
variable {P : Program} {w : World} {H H' : Hp} {h h' : Heap} {a : Addr} {o : HO}
theorem ObjOk.lt (x : ObjOk P w H h a o) : a < h.objs.size := by
  cases o with
  | lst xs => obtain ⟨_, _, _, _, e⟩ := x; exact Heap.lt_size e
  | tup xs => obtain ⟨_, _, _, p⟩ := x; exact p.lt
  | dK kvs => obtain ⟨_, _, _, _, o, _, _, e, _⟩ := x; exact Heap.lt_size e
  | dT kvs => obtain ⟨_, _, _, _, o, _, _, e, _⟩ := x; exact Heap.lt_size e
  | set S n => obtain ⟨o, _, _, _, e, _⟩ := x; exact Heap.lt_size e
  | ins C dx fs => obtain ⟨_, _, _, e, _⟩ := x; exact Heap.lt_size e
  | own y => obtain ⟨_, e⟩ := x; exact Heap.lt_size e
  | xd fs => obtain ⟨_, ⟨_, _, _, e, _⟩, _⟩ := x; exact Heap.lt_size e
  | rng lo hi => obtain ⟨_, _, _, e⟩ := x; exact Heap.lt_size e
  | frz ob u => obtain ⟨e, _⟩ := x; exact Heap.lt_size e
  | tbl ps => exact Heap.lt_size (show h.get? a = some _ from x)
  | met f y => exact Heap.lt_size (show h.get? a = some _ from x)
  | ext φ => obtain ⟨_, ⟨_, e⟩, _⟩ := x; exact Heap.lt_size e
theorem Paired.mapP {α β : Type} {F G : α → β → Prop} : ∀ {l₁ : List α} {l₂ : List β}, Paired F l₁ l₂ → (∀ a b, F a b → G a b) → Paired G l₁ l₂
  | _, _, .nil, _ => .nil
  | _, _, .cons r t, f => .cons (f _ _ r) (Paired.mapP t f)
theorem Paired.imp' {α β : Type} {F G : α → β → Prop} (f : ∀ a b, F a b → G a b) {l₁ : List α} {l₂ : List β} (r : Paired F l₁ l₂) : Paired G l₁ l₂ := Paired.mapP r f
/-- what an object's description leans on: its own object, its own dict, the tuples -/
theorem ObjOk.stay (x : ObjOk P w H h a o) (k : ∀ b u, (b = a ∨ H b = some (.own a)) → h.get? b = some u → h'.get? b = some u)
    (ho : ∀ b, H b = some (.own a) → H' b = some (.own a)) (ht : ∀ b xs, H b = some (.tup xs) → H' b = some (.tup xs)) : ObjOk P w H' h' a o := by
  induction o with
  | lst xs => obtain ⟨z, its, n, r, e⟩ := x; exact ⟨z, its, n, r, k _ _ (.inl rfl) e⟩
  | tup xs => obtain ⟨z, its, r, ob, e, c⟩ := x; exact ⟨z, its, r, ob, k _ _ (.inl rfl) e, c⟩
  | dK kvs => obtain ⟨z, y, vs, r, ob, es, ep, e, c⟩ := x; exact ⟨z, y, vs, r, ob, es, ep, k _ _ (.inl rfl) e, c⟩
  | dT kvs =>
    obtain ⟨z, y, xs, r, ob, es, ep, e, c⟩ := x
    exact ⟨z, y, xs, Paired.mapP r fun p q z => ⟨z.1, ht _ _ z.2.1, z.2.2⟩, ob, es, ep, k _ _ (.inl rfl) e, c⟩
  | set S n => obtain ⟨ob, es, ep, t, e, c⟩ := x; exact ⟨ob, es, ep, t, k _ _ (.inl rfl) e, c⟩
  | ins C dx fs =>
    obtain ⟨d, z, ne, e, mA, ⟨od, es, ep, e2, c⟩, r⟩ := x
    exact ⟨ho _ d, z, ne, k _ _ (.inl rfl) e, mA, ⟨od, es, ep, k _ _ (.inr d) e2, c⟩, r⟩
  | own y => obtain ⟨ob, e⟩ := x; exact ⟨ob, k _ _ (.inl rfl) e⟩
  | xd fs => obtain ⟨mA, ⟨od, es, ep, e, c⟩, r⟩ := x; exact ⟨mA, ⟨od, es, ep, k _ _ (.inl rfl) e, c⟩, r⟩
  | rng lo hi => obtain ⟨t, u, v, e⟩ := x; exact ⟨t, u, v, k _ _ (.inl rfl) e⟩
  | frz ob u ih => obtain ⟨e, q⟩ := x; exact ⟨k _ _ (.inl rfl) e, ih q⟩
  | tbl ps =>
    have e : h.get? a = some { cls := .none, data := .fields ps } := x
    show h'.get? a = some { cls := .none, data := .fields ps }
    exact k a _ (.inl rfl) e
  | met f y =>
    have e : h.get? a = some (PySem.W.methodObj (.ref f) (.ref y)) := x
    show h'.get? a = some (PySem.W.methodObj (.ref f) (.ref y))
    exact k a _ (.inl rfl) e
  | ext φ => obtain ⟨p, ⟨o, e⟩, st⟩ := x; exact ⟨st _ _ p fun o q => k _ _ (.inl rfl) q, ⟨o, k _ _ (.inl rfl) e⟩, st⟩
theorem HOk.lt (x : HOk P w H h) (e : H a = some o) : a < h.objs.size := (x a o e).lt
theorem HOk.fresh (x : HOk P w H h) (e : h.objs.size ≤ a) : H a = none := by
  cases q : H a with
  | none => rfl
  | some u => exact absurd (Nat.lt_of_lt_of_le (x.lt q) e) (Nat.lt_irrefl _)
/-- every object of the heap is kept -/
theorem HOk.kept (x : HOk P w H h) (k : ∀ b u, h.get? b = some u → h'.get? b = some u) : HOk P w H h' := fun a o e =>
  (x a o e).stay (fun b u _ q => k b u q) (fun _ q => q) fun _ _ q => q
/-- a new object is laid and tracked -/
theorem HOk.laid (x : HOk P w H h) (k : ∀ b u, h.get? b = some u → h'.get? b = some u) (hp : h.objs.size ≤ a) (new : ObjOk P w (upd H a o) h' a o) : HOk P w (upd H a o) h' := fun b u e => by
  have hn := x.fresh hp
  by_cases hb : b = a
  · subst hb; rw [upd_same] at e; cases e; exact new
  · rw [upd_ne hb] at e
    exact (x b u e).stay (fun c v _ q => k c v q) (fun c q => by rw [upd_ne (ne_of_none q hn)]; exact q) fun c xs q => by rw [upd_ne (ne_of_none q hn)]; exact q
end

/-- what may be read as u: it is u, or a known u -/
def Rd (H : Hp) (a : Addr) (u : HO) : Prop := H a = some u ∨ ∃ o, H a = some (.frz o u)
theorem Rd.of {H : Hp} {a : Addr} {u : HO} (h : H a = some u) : Rd H a u := .inl h
theorem Rd.ok {P : Program} {w : World} {H : Hp} {h : Heap} {a : Addr} {u : HO} (r : Rd H a u) (x : HOk P w H h) : ObjOk P w H h a u := by
  rcases r with r | ⟨o, r⟩
  · exact x a u r
  · obtain ⟨_, q⟩ := x a _ r
    exact q
/-- what may be written -/
def Mut : Option HO → Prop
  | some (.lst _) => True
  | some (.dK _) => True
  | some (.dT _) => True
  | some (.set _ _) => True
  | some (.ins _ _ _) => True
  | some (.ext _) => True
  | _ => False
section
variable {P : Program} {w : World} {H : Hp} {h h' : Heap} {x e : Addr} {o' : HO}
/-- the object at e is changed: x itself, or the dict of the instance x -/
theorem HOk.write (ok : HOk P w H h) (mu : Mut (H x)) (he : e = x ∨ H e = some (.own x)) (k : ∀ b u, b ≠ e → h.get? b = some u → h'.get? b = some u) (heo : ∃ u, h'.get? e = some u)
    (new : ObjOk P w (upd H x o') h' x o') : HOk P w (upd H x o') h' := fun b u q => by
  have nown : ∀ c y, H c = some (.own y) → c ≠ x := fun c y r z => by subst z; rw [r] at mu; exact mu
  have ntup : ∀ c xs, H c = some (.tup xs) → c ≠ x := fun c xs r z => by subst z; rw [r] at mu; exact mu
  by_cases hb : b = x
  · subst hb; rw [upd_same] at q; cases q; exact new
  · rw [upd_ne hb] at q
    by_cases hbe : b = e
    · have q' : H b = some (.own x) := by
        rcases he with z | z
        · exact absurd (hbe.trans z) hb
        · rw [hbe]; exact z
      rw [q] at q'; cases q'
      obtain ⟨v, hv⟩ := heo
      exact ⟨v, by rw [hbe]; exact hv⟩
    · refine (ok b u q).stay (fun c v hc r => k c v ?_ r) (fun c r => by rw [upd_ne (nown c b r)]; exact r) fun c xs r => by rw [upd_ne (ntup c xs r)]; exact r
      rcases hc with rfl | hc
      · exact hbe
      · rintro rfl
        rcases he with z | z
        · exact nown c b hc z
        · rw [hc] at z; cases z; exact hb rfl
end

/-! ### kept unless tracked; of the frames at fs (the callers') the slots may change (an exception that passes writes there); of the records at ex (iterators) nothing is said -/
structure Un (fs ex : List Addr) (H H' : Hp) (h h' : Heap) : Prop where
  keep : ∀ b o, h.get? b = some o → H b = none → b ∉ fs → b ∉ ex → h'.get? b = some o
  slot : ∀ b o, h.get? b = some o → H b = none → b ∈ fs → b ∉ ex → ∃ sl, h'.get? b = some { o with slots := sl }
  free : ∀ b o, h.get? b = some o → H b = none → b ∉ ex → H' b = none
  there : ∀ b o, h.get? b = some o → b ∉ ex → ∃ o', h'.get? b = some o'
  tups : ∀ b xs, H b = some (.tup xs) → H' b = some (.tup xs)
  frzs : ∀ b o u, H b = some (.frz o u) → H' b = some (.frz o u)
  tbls : ∀ b ps, H b = some (.tbl ps) → ∃ more, H' b = some (.tbl (ps ++ more))
section
variable {fs fs' ex ex' : List Addr} {H H1 H2 : Hp} {h h1 h2 h' : Heap} {a x e : Addr} {o : HO}
theorem Un.any (u : Un fs ex H H1 h h1) {b : Addr} {ob : Obj} (q : h.get? b = some ob) (n : H b = none) (hx : b ∉ ex) : ∃ sl, h1.get? b = some { ob with slots := sl } := by
  by_cases hb : b ∈ fs
  · exact u.slot b ob q n hb hx
  · exact ⟨ob.slots, u.keep b ob q n hb hx⟩
theorem Un.trans (a : Un fs ex H H1 h h1) (b : Un fs ex H1 H2 h1 h2) : Un fs ex H H2 h h2 where
  keep := fun c ob q n hc hx => b.keep c ob (a.keep c ob q n hc hx) (a.free c ob q n hx) hc hx
  slot := fun c ob q n hc hx => by
    obtain ⟨sl, e1⟩ := a.slot c ob q n hc hx
    obtain ⟨sl', e2⟩ := b.slot c _ e1 (a.free c ob q n hx) hc hx
    exact ⟨sl', e2⟩
  free := fun c ob q n hx => by
    obtain ⟨o', e1⟩ := a.there c ob q hx
    exact b.free c o' e1 (a.free c ob q n hx) hx
  there := fun c ob q hx => by
    obtain ⟨o', e1⟩ := a.there c ob q hx
    exact b.there c o' e1 hx
  tups := fun c xs q => b.tups c xs (a.tups c xs q)
  frzs := fun c ob xs q => b.frzs c ob xs (a.frzs c ob xs q)
  tbls := fun c ps q => by
    obtain ⟨m1, e1⟩ := a.tbls c ps q
    obtain ⟨m2, e2⟩ := b.tbls c _ e1
    exact ⟨m1 ++ m2, by rw [e2, Array.append_assoc]⟩
theorem Un.kept (k : ∀ b u, h.get? b = some u → h'.get? b = some u) : Un fs ex H H h h' :=
  ⟨fun b ob q _ _ _ => k b ob q, fun b ob q _ _ _ => ⟨ob.slots, k b ob q⟩, fun _ _ _ n _ => n, fun b ob q _ => ⟨ob, k b ob q⟩, fun _ _ q => q, fun _ _ _ q => q, fun _ ps q => ⟨#[], by rw [q]; simp⟩⟩
theorem Un.refl : Un fs ex H H h h := Un.kept fun _ _ q => q
theorem Un.laid (k : ∀ b u, h.get? b = some u → h'.get? b = some u) (hp : h.objs.size ≤ a) (hn : H a = none) : Un fs ex H (upd H a o) h h' where
  keep := fun b u q _ _ _ => k b u q
  slot := fun b u q _ _ _ => ⟨u.slots, k b u q⟩
  free := fun b u q n _ => by rw [upd_ne (Nat.ne_of_lt (Nat.lt_of_lt_of_le (Heap.lt_size q) hp))]; exact n
  there := fun b u q _ => ⟨u, k b u q⟩
  tups := fun b xs q => by rw [upd_ne (ne_of_none q hn)]; exact q
  frzs := fun b u xs q => by rw [upd_ne (ne_of_none q hn)]; exact q
  tbls := fun b ps q => ⟨#[], by rw [upd_ne (ne_of_none q hn), q]; simp⟩
theorem Un.write (mu : Mut (H x)) (he : e = x ∨ H e = some (.own x)) (k : ∀ b u, b ≠ e → h.get? b = some u → h'.get? b = some u) (heo : ∃ u, h'.get? e = some u) : Un fs ex H (upd H x o) h h' := by
  have hx : ∀ b, H b = none → b ≠ x := fun b n z => by subst z; rw [n] at mu; exact mu
  have hb : ∀ b, H b = none → b ≠ e := fun b n z => by
    subst z
    rcases he with r | r
    · exact hx b n r
    · rw [n] at r; cases r
  have hm : ∀ b u, H b = some u → ¬ Mut (some u) → b ≠ x := fun b u q nm z => by subst z; rw [q] at mu; exact nm mu
  refine ⟨fun b u q n _ _ => k b u (hb b n) q, fun b u q n _ _ => ⟨u.slots, k b u (hb b n) q⟩, fun b u q n _ => by rw [upd_ne (hx b n)]; exact n, fun b u q _ => ?_,
    fun b xs q => by rw [upd_ne (hm b _ q fun z => z)]; exact q, fun b u xs q => by rw [upd_ne (hm b _ q fun z => z)]; exact q, fun b ps q => ⟨#[], by rw [upd_ne (hm b _ q fun z => z), q]; simp⟩⟩
  by_cases hbe : b = e
  · subst hbe; exact heo
  · exact ⟨u, k b u hbe q⟩
theorem Un.mono (u : Un fs ex H H1 h h1) (hs : ∀ b ∈ fs, b ∈ fs') (hx : ∀ b ∈ ex, b ∈ ex') : Un fs' ex' H H1 h h1 :=
  ⟨fun b ob q n hb he => u.keep b ob q n (fun z => hb (hs b z)) fun z => he (hx b z), fun _ _ q n _ he => u.any q n fun z => he (hx _ z), fun b ob q n he => u.free b ob q n fun z => he (hx b z), fun b ob q he => u.there b ob q fun z => he (hx b z), u.tups, u.frzs, u.tbls⟩
end

/-! ### the heap without what is tracked -/
def trk (h : Heap) (H : Hp) : List Addr := (List.range h.objs.size).filter fun a => (H a).isSome
def hidT (h : Heap) (H : Hp) : Heap := PySem.W.hideAll h (trk h H)
theorem hidT_size (h : Heap) (H : Hp) : (hidT h H).objs.size = h.objs.size := PySem.W.hideAll_size _ _
theorem hidT_get {h : Heap} {H : Hp} {b : Addr} {o : Obj} (e : h.get? b = some o) (n : H b = none) : (hidT h H).get? b = some o :=
  PySem.W.hideAll_get _ e fun hm => by
    have q : (H b).isSome = true := (List.mem_filter.mp hm).2
    rw [n] at q; simp at q
theorem of_hidT {h : Heap} {H : Hp} {b : Addr} {o : Obj} (e : (hidT h H).get? b = some o) : h.get? b = some o ∧ H b = none := by
  have e' : h.get? b = some o := PySem.W.of_hideAll (trk h H) e
  refine ⟨e', ?_⟩
  cases q : H b with
  | none => rfl
  | some x =>
    have hm : b ∈ trk h H := List.mem_filter.mpr ⟨List.mem_range.mpr (Heap.lt_size e'), by simp [q]⟩
    have z : (hidT h H).get? b = none := PySem.W.hideAll_none (trk h H) hm
    rw [z] at e; cases e

/-! ### OpenK's ledger, filled with every new object but one -/
def allNews (g h : Heap) (L : Addr) : List (Addr × Obj) := (List.range h.objs.size).filterMap fun a => if a = L ∨ (g.get? a).isSome = true then none else (h.get? a).map fun o => (a, o)
theorem mem_allNews {g h : Heap} {L a : Addr} {o : Obj} (h1 : a ≠ L) (h2 : g.get? a = none) (h3 : h.get? a = some o) : (a, o) ∈ allNews g h L :=
  List.mem_filterMap.mpr ⟨a, List.mem_range.mpr (Heap.lt_size h3), by simp [h1, h2, h3]⟩
def rest (g h : Heap) (L d : Addr) : List (Addr × Obj) := (allNews g h L).filter fun p => decide (p.1 ≠ d)
end L2

namespace L2
open PySem PySem.Spec PyProof.Rows

/-- the module's facts, over the base: the heap at the law's entry without what is tracked there -/
structure Mod (K : PySem.W.Frag) (mg : Str → Option Value) (base : Heap) : Prop where
  kin : K.In base
  glob : base.Ns mainGlobals mg
  blt : ∃ mb, base.Ns builtinsNs mb ∧ ∀ x : Str, x ≠ "__name__" → mb x = bootBuiltins x
  nolimit : base.NoLimit
  nodig : base.NoDigits

/-- the context: a def's body (or a comprehension's block) running. base: fixed through the whole law; s₀, H₀: the entry; outer: the frames whose slots others may change (a def's callers); stack: all frames that run;
   ex: iterators that were made ahead of the entry and are walked here (a comprehension's); fn: the names whose cells were made at the entry (a def: all; a comprehension's block: its own); calm: not within an except suite; pn: pins that every state bears; xe: what is wanted of an exception that leaves the code -/
structure Cx where
  prog : Program
  w : World
  K : PySem.W.Frag
  mg : Str → Option Value
  base : Heap
  A : Around
  N : List Str
  s₀ : Shared
  H₀ : Hp
  env : Env
  outer : List Env
  stack : List Env
  ex : List Addr
  fn : Str → Bool
  calm : Bool
  pn : List (Addr × Obj)
  xe : Value → Shared → Prop
/-- the callers' frames -/
def frs (l : List Env) : List Addr := l.filterMap (·.frame)
abbrev Cx.fs (X : Cx) : List Addr := frs X.outer

def Vis (sc : Scope) (x : Str) : Prop := sc.names.lookup x = some .local ∨ sc.names.lookup x = some .cell ∨ sc.names.lookup x = some .free
def Loc (sc : Scope) (x : Str) : Prop := sc.names.lookup x = some .local ∨ sc.names.lookup x = some .cell
def Look (env : Env) (h : Heap) (m : Str → Option Value) (x : Str) (u : Value) : Prop :=
  (env.kindOf x = some .local ∧ m x = some u) ∨ ((env.kindOf x = some .cell ∨ env.kindOf x = some .free) ∧ ∃ c, env.cells.lookup x = some c ∧ h.IsCell c (some u))

structure Cx.Ok (X : Cx) : Prop where
  mod : Mod X.K X.mg X.base
  kind : X.env.scope.kind = .function
  glob : X.env.globals = mainGlobals
  blt : X.env.builtins = builtinsNs
  above : X.s₀.heap.objs.size ≤ X.env.locals
  inj : ∀ x y c, X.env.cells.lookup x = some c → X.env.cells.lookup y = some c → x = y
  has : ∀ x, (X.env.kindOf x = some .cell ∨ X.env.kindOf x = some .free) → ∃ c, X.env.cells.lookup x = some c
  cab : ∀ x c, X.fn x = true → X.env.cells.lookup x = some c → X.s₀.heap.objs.size ≤ c
  hd : X.calm = true → X.A.handled = none
  frames : X.A.frames = some X.stack
  stk : X.stack = X.outer ∨ (X.stack = X.env :: X.outer ∧ X.env.frame = some X.env.locals)
  exf : ∀ b ∈ X.ex, b ≠ X.env.locals ∧ ∀ x c, X.env.cells.lookup x = some c → c ≠ b
  bs : ∀ b o, X.base.get? b = some o → X.s₀.heap.get? b = some o ∧ X.H₀ b = none
  bsz : X.base.objs.size ≤ X.s₀.heap.objs.size
  noex : ∀ b o, X.base.get? b = some o → b ∉ X.ex
  exfs : ∀ b ∈ X.ex, b ∉ X.fs
  funs : X.s₀.heap.FunFrames X.base X.outer
  frf : ∀ b ∈ X.fs, X.H₀ b = none

structure Inv (X : Cx) (pins : List (Addr × Obj)) (σ : List (Option V)) (H : Hp) (s : Shared) : Prop where
  ok : X.Ok
  os : s.os = X.s₀.os
  bare : AllBare s.gens
  base : Un X.fs X.ex X.H₀ H X.s₀.heap s.heap
  loc : ∃ m, s.heap.Ns X.env.locals m ∧ ∀ (i : Nat) (x : Str) (v : V), X.N[i]? = some x → σ[i]? = some (some v) → Vis X.env.scope x → ∃ u, RelV v u ∧ Look X.env s.heap m x u
  cell : ∀ x c, X.env.cells.lookup x = some c → ∃ v, s.heap.IsCell c v
  free : H X.env.locals = none
  freeC : ∀ x c, X.env.cells.lookup x = some c → H c = none
  pin : ∀ p ∈ X.pn ++ pins, s.heap.get? p.1 = some p.2 ∧ H p.1 = none ∧ p.1 ≠ X.env.locals ∧ p.1 ∉ X.fs ∧ ∀ v, p.2.data ≠ .cell v
  hok : HOk X.prog X.w H s.heap
  len : σ.length = X.N.length

section
variable {X : Cx} {pins : List (Addr × Obj)} {σ : List (Option V)} {H H' : Hp} {s : Shared} {h' : Heap}

theorem Cx.Ok.nofr (ok : X.Ok) {b : Addr} {o : Obj} (e : X.base.get? b = some o) : b ∉ X.fs := fun hb => by
  have := (ok.funs.mem hb).1
  rw [e] at this; cases this
theorem Inv.bs (I : Inv X pins σ H s) : ∀ b o, X.base.get? b = some o → s.heap.get? b = some o ∧ H b = none := fun b o e =>
  ⟨I.base.keep b o (I.ok.bs b o e).1 (I.ok.bs b o e).2 (I.ok.nofr e) (I.ok.noex b o e), I.base.free b o (I.ok.bs b o e).1 (I.ok.bs b o e).2 (I.ok.noex b o e)⟩
theorem Inv.bk (I : Inv X pins σ H s) : ∀ b o, X.base.get? b = some o → s.heap.get? b = some o := fun b o e => (I.bs b o e).1
theorem Inv.mod (I : Inv X pins σ H s) : Mod X.K X.mg X.base := I.ok.mod
theorem Inv.kIn (I : Inv X pins σ H s) : X.K.In s.heap := I.ok.mod.kin.keeps I.bk
theorem Inv.nolimit (I : Inv X pins σ H s) : s.heap.NoLimit := I.ok.mod.nolimit.keeps I.bk
/-- the frame over the base: for OpenK's rules (K.In X.base is I.mod.kin) -/
theorem Inv.fr (I : Inv X pins σ H s) : ∃ m, Fr X.base X.env.locals s.heap m :=
  let ⟨m, hn, _⟩ := I.loc
  ⟨m, hn, I.bk, Nat.le_trans I.ok.bsz I.ok.above⟩
theorem Inv.lt (I : Inv X pins σ H s) : X.env.locals < s.heap.objs.size := let ⟨_, hn, _⟩ := I.loc; hn.lt
theorem Inv.sz (I : Inv X pins σ H s) : X.s₀.heap.objs.size ≤ s.heap.objs.size := Nat.le_trans I.ok.above (Nat.le_of_lt I.lt)
theorem Inv.nofs (I : Inv X pins σ H s) {a : Addr} (h : s.heap.objs.size ≤ a) : a ∉ X.fs := fun hb => by
  obtain ⟨_, o, ho, _⟩ := I.ok.funs.mem hb
  exact absurd (Nat.lt_of_lt_of_le (Heap.lt_size ho) (Nat.le_trans I.sz h)) (Nat.lt_irrefl _)
theorem Inv.cne (I : Inv X pins σ H s) : ∀ x c, X.env.cells.lookup x = some c → c ≠ X.env.locals := fun x c e z => by
  obtain ⟨v, o, ho, hd⟩ := I.cell x c e
  obtain ⟨m, ⟨o', es, ep, ho', hd', _⟩, _⟩ := I.loc
  rw [z, ho'] at ho; cases ho; rw [hd'] at hd; cases hd
theorem Inv.funs (I : Inv X pins σ H s) : s.heap.FunFrames X.base X.outer := by
  have all : ∀ (l : List Env), (∀ b ∈ frs l, b ∈ X.fs) → X.s₀.heap.FunFrames X.base l → s.heap.FunFrames X.base l := by
    intro l
    induction l with
    | nil => intro _ _; trivial
    | cons env r ih =>
      intro hs hl
      obtain ⟨hk, ⟨L, o, hf, hn, ho, hd⟩, hr⟩ := hl
      have hL : L ∈ X.fs := hs L (by unfold frs; rw [List.filterMap_cons, hf]; exact List.mem_cons_self)
      obtain ⟨sl, e⟩ := I.base.slot L o ho (I.ok.frf L hL) hL fun z => I.ok.exfs L z hL
      exact ⟨hk, ⟨L, _, hf, hn, e, hd⟩, ih (fun b hb => hs b (by unfold frs; rw [List.filterMap_cons, hf]; exact List.mem_cons_of_mem _ hb)) hr⟩
  exact all X.outer (fun _ hb => hb) I.ok.funs

/-- the frames that run, for a call -/
theorem Inv.stack (I : Inv X pins σ H s) : s.heap.FunFrames X.base X.stack := by
  rcases I.ok.stk with e | ⟨e, hf⟩
  · rw [e]; exact I.funs
  · rw [e]
    obtain ⟨m, hn, _⟩ := I.loc
    refine .cons (by rw [I.ok.kind]; decide) hf hn ?_ I.funs
    exact Heap.get?_none_of_le (Nat.le_trans I.ok.bsz I.ok.above)
theorem Inv.stkSub (I : Inv X pins σ H s) : ∀ b ∈ frs X.stack, b ∈ X.env.locals :: X.fs := fun b hb => by
  rcases I.ok.stk with e | ⟨e, hf⟩
  · rw [e] at hb; exact List.mem_cons_of_mem _ hb
  · rw [e] at hb
    unfold frs at hb
    rw [List.filterMap_cons, hf] at hb
    exact hb
theorem Inv.stkFree (I : Inv X pins σ H s) : ∀ b ∈ frs X.stack, H b = none := fun b hb => by
  rcases List.mem_cons.mp (I.stkSub b hb) with e | hb
  · rw [e]; exact I.free
  · obtain ⟨_, o, ho, _⟩ := I.ok.funs.mem hb
    exact I.base.free b o ho (I.ok.frf b hb) fun z => I.ok.exfs b z hb

/-- THE STEP: the untracked objects but the frame and the records at ch are kept (the callers' frames up to slots), the frame's map is kept, the new abstract heap is held -/
theorem Inv.step {g' : Array GenState} {t' : Nat} {d' : Drawn} {ch : List Addr} (I : Inv X pins σ H s)
    (hch : ∀ b ∈ ch, (b ∈ X.ex ∨ X.s₀.heap.objs.size ≤ b) ∧ b ≠ X.env.locals ∧ (∀ x c, X.env.cells.lookup x = some c → c ≠ b) ∧ ∀ p ∈ X.pn ++ pins, p.1 ≠ b)
    (keep : ∀ b o, b ≠ X.env.locals → b ∉ X.fs → b ∉ ch → s.heap.get? b = some o → H b = none → h'.get? b = some o)
    (slot : ∀ b o, b ≠ X.env.locals → b ∈ X.fs → b ∉ ch → s.heap.get? b = some o → H b = none → ∃ sl, h'.get? b = some { o with slots := sl }) (free : ∀ b o, b ∉ ch → s.heap.get? b = some o → H b = none → H' b = none)
    (there : ∀ b o, b ∉ ch → s.heap.get? b = some o → ∃ o', h'.get? b = some o')
    (tups : ∀ b xs, H b = some (.tup xs) → H' b = some (.tup xs)) (frzs : ∀ b o u, H b = some (.frz o u) → H' b = some (.frz o u)) (tbls : ∀ b ps, H b = some (.tbl ps) → ∃ more, H' b = some (.tbl (ps ++ more)))
    (ns : ∀ m, s.heap.Ns X.env.locals m → h'.Ns X.env.locals m) (hok : HOk X.prog X.w H' h') (hg : AllBare g') :
    Inv X pins σ H' { s with heap := h', gens := g', drawn := d', toks := t' } := by
  have neL : ∀ b o, X.s₀.heap.get? b = some o → b ≠ X.env.locals := fun b o e => Nat.ne_of_lt (Nat.lt_of_lt_of_le (Heap.lt_size e) I.ok.above)
  have neC : ∀ b o, X.s₀.heap.get? b = some o → b ∉ X.ex → b ∉ ch := fun b o e hx hb => by
    rcases (hch b hb).1 with z | z
    · exact hx z
    · exact absurd (Nat.lt_of_lt_of_le (Heap.lt_size e) z) (Nat.lt_irrefl _)
  have cellK : ∀ x c, X.env.cells.lookup x = some c → ∀ v, s.heap.IsCell c v → h'.IsCell c v := fun x c e v ⟨o, ho, hd⟩ => by
    have nch : c ∉ ch := fun z => (hch c z).2.2.1 x c e rfl
    by_cases hc : c ∈ X.fs
    · obtain ⟨sl, q⟩ := slot c o (I.cne x c e) hc nch ho (I.freeC x c e)
      exact ⟨_, q, hd⟩
    · exact ⟨o, keep c o (I.cne x c e) hc nch ho (I.freeC x c e), hd⟩
  refine ⟨I.ok, I.os, hg, ⟨fun b o e n hb hx => ?_, fun b o e n hb hx => ?_, fun b o e n hx => ?_, fun b o e hx => ?_, fun b xs e => tups b xs (I.base.tups b xs e), fun b o xs e => frzs b o xs (I.base.frzs b o xs e), fun b ps e => ?_⟩, ?_, fun x c e => ?_, ?_, fun x c e => ?_, fun p hp => ?_, hok, I.len⟩
  · exact keep b o (neL b o e) hb (neC b o e hx) (I.base.keep b o e n hb hx) (I.base.free b o e n hx)
  · obtain ⟨sl, e1⟩ := I.base.slot b o e n hb hx
    obtain ⟨sl', e2⟩ := slot b _ (neL b o e) hb (neC b o e hx) e1 (I.base.free b o e n hx)
    exact ⟨sl', e2⟩
  · obtain ⟨o', e1⟩ := I.base.there b o e hx
    exact free b o' (neC b o e hx) e1 (I.base.free b o e n hx)
  · obtain ⟨o', e1⟩ := I.base.there b o e hx
    exact there b o' (neC b o e hx) e1
  · obtain ⟨m1, e1⟩ := I.base.tbls b ps e
    obtain ⟨m2, e2⟩ := tbls b _ e1
    exact ⟨m1 ++ m2, by rw [e2, Array.append_assoc]⟩
  · obtain ⟨m, hn, hl⟩ := I.loc
    refine ⟨m, ns m hn, fun i x v e1 e2 e3 => ?_⟩
    obtain ⟨u, r, l⟩ := hl i x v e1 e2 e3
    refine ⟨u, r, ?_⟩
    rcases l with l | ⟨k, c, e, z⟩
    · exact .inl l
    · exact .inr ⟨k, c, e, cellK x c e _ z⟩
  · obtain ⟨v, z⟩ := I.cell x c e
    exact ⟨v, cellK x c e v z⟩
  · obtain ⟨m, ⟨o, _, _, ho, _⟩, _⟩ := I.loc
    exact free _ o (fun z => (hch _ z).2.1 rfl) ho I.free
  · obtain ⟨v, o, ho, hd⟩ := I.cell x c e
    exact free c o (fun z => (hch c z).2.2.1 x c e rfl) ho (I.freeC x c e)
  · obtain ⟨e, n, ne, nf, d⟩ := I.pin p hp
    have nch : p.1 ∉ ch := fun z => (hch p.1 z).2.2.2 p hp rfl
    exact ⟨keep p.1 p.2 ne nf nch e n, free p.1 p.2 nch e n, ne, nf, d⟩
/-- .. where the frame's own object is kept too -/
theorem Inv.un {t' : Nat} (I : Inv X pins σ H s) (u : Un X.fs [] H H' s.heap h') (hok : HOk X.prog X.w H' h') : Inv X pins σ H' { s with heap := h', toks := t' } := by
  obtain ⟨m, ⟨o, es, ep, ho, r⟩, _⟩ := id I.loc
  obtain ⟨sl, hL⟩ := u.any ho I.free (by simp)
  exact I.step (g' := s.gens) (d' := s.drawn) (ch := []) (fun _ z => nomatch z) (fun b o _ hb _ e n => u.keep b o e n hb (by simp)) (fun b o _ hb _ e n => u.slot b o e n hb (by simp)) (fun b o _ e n => u.free b o e n (by simp)) (fun b o _ e => u.there b o e (by simp)) u.tups u.frzs u.tbls (fun m' hm => by
    obtain ⟨o', es', ep', ho', r'⟩ := hm
    rw [ho] at ho'; cases ho'
    exact ⟨_, es', ep', hL, r'⟩) hok I.bare
/-- behind a call (or a comprehension's block): the slots of this frame may have changed too, the records at ch may have turned -/
theorem Inv.call {g' : Array GenState} {t' : Nat} {d' : Drawn} {ch : List Addr} (I : Inv X pins σ H s) (u : Un (frs X.stack) ch H H' s.heap h') (hok : HOk X.prog X.w H' h') (hg : AllBare g')
    (hch : ∀ b ∈ ch, (b ∈ X.ex ∨ X.s₀.heap.objs.size ≤ b) ∧ b ≠ X.env.locals ∧ (∀ x c, X.env.cells.lookup x = some c → c ≠ b) ∧ ∀ p ∈ X.pn ++ pins, p.1 ≠ b) :
    Inv X pins σ H' { s with heap := h', gens := g', drawn := d', toks := t' } := by
  obtain ⟨m, ⟨o, es, ep, ho, r⟩, _⟩ := id I.loc
  obtain ⟨sl, hL⟩ := u.any ho I.free fun z => (hch _ z).2.1 rfl
  exact I.step (ch := ch) hch (fun b o hL hb hc e n => u.keep b o e n (fun z => (List.mem_cons.mp (I.stkSub b z)).elim hL hb) hc) (fun b o _ _ hc e n => u.any e n hc) (fun b o hc e n => u.free b o e n hc) (fun b o hc e => u.there b o e hc) u.tups u.frzs u.tbls (fun m' hm => by
    obtain ⟨o', es', ep', ho', r'⟩ := hm
    rw [ho] at ho'; cases ho'
    exact ⟨_, es', ep', hL, r'⟩) hok hg
/-- an untracked record of ours (an iterator) has turned -/
theorem Inv.turned {t' : Nat} {it : Addr} (I : Inv X pins σ H s) (k : ∀ b o, b ≠ it → s.heap.get? b = some o → h'.get? b = some o) (hn : H it = none) (hL : it ≠ X.env.locals)
    (h1 : it ∈ X.ex ∨ X.s₀.heap.objs.size ≤ it) (h2 : ∀ x c, X.env.cells.lookup x = some c → c ≠ it) (h3 : ∀ p ∈ X.pn ++ pins, p.1 ≠ it) : Inv X pins σ H { s with heap := h', toks := t' } := by
  have nit : ∀ b u, H b = some u → b ≠ it := fun b u e z => by rw [z, hn] at e; cases e
  refine I.step (g' := s.gens) (d' := s.drawn) (ch := [it]) (fun b hb => ?_) (fun b o _ _ hc e _ => k b o (fun z => hc (by simp [z])) e) (fun b o _ _ hc e _ => ⟨o.slots, k b o (fun z => hc (by simp [z])) e⟩) (fun _ _ _ _ n => n)
    (fun b o hc e => ⟨o, k b o (fun z => hc (by simp [z])) e⟩) (fun _ _ e => e) (fun _ _ _ e => e) (fun b ps e => ⟨#[], by rw [e]; simp⟩) (fun m hm => ?_) (fun b u e => ?_) I.bare
  · have e : b = it := by simpa using hb
    subst e
    exact ⟨h1, hL, h2, h3⟩
  · obtain ⟨o, es, ep, ho, r⟩ := hm
    exact ⟨o, es, ep, k _ o (Ne.symm hL) ho, r⟩
  · refine (I.hok b u e).stay (fun c v hc q => k c v ?_ q) (fun _ q => q) fun _ _ q => q
    rcases hc with z | z
    · rw [z]; exact nit b u e
    · exact nit c _ z
theorem Inv.tok (I : Inv X pins σ H s) (t : Nat) : Inv X pins σ H { s with toks := t } := I.un (h' := s.heap) (t' := t) Un.refl I.hok
/-- all objects kept -/
theorem Inv.kept {t' : Nat} (I : Inv X pins σ H s) (k : ∀ b u, s.heap.get? b = some u → h'.get? b = some u) : Inv X pins σ H { s with heap := h', toks := t' } := I.un (Un.kept k) (I.hok.kept k)
/-- a new object laid and tracked -/
theorem Inv.laid {a : Addr} {o : HO} {t' : Nat} (I : Inv X pins σ H s) (k : ∀ b u, s.heap.get? b = some u → h'.get? b = some u) (hp : s.heap.objs.size ≤ a) (new : ObjOk X.prog X.w (upd H a o) h' a o) :
    Inv X pins σ (upd H a o) { s with heap := h', toks := t' } := I.un (Un.laid k hp (I.hok.fresh hp)) (I.hok.laid k hp new)
/-- an object written -/
theorem Inv.write {x e : Addr} {o : HO} {t' : Nat} (I : Inv X pins σ H s) (mu : Mut (H x)) (he : e = x ∨ H e = some (.own x)) (k : ∀ b u, b ≠ e → s.heap.get? b = some u → h'.get? b = some u) (heo : ∃ u, h'.get? e = some u)
    (new : ObjOk X.prog X.w (upd H x o) h' x o) : Inv X pins σ (upd H x o) { s with heap := h', toks := t' } := I.un (Un.write mu he k heo) (I.hok.write mu he k heo new)
theorem Inv.pins_of {pins' : List (Addr × Obj)} (I : Inv X pins σ H s) (h : ∀ p ∈ pins', s.heap.get? p.1 = some p.2 ∧ H p.1 = none ∧ p.1 ≠ X.env.locals ∧ p.1 ∉ X.fs ∧ ∀ v, p.2.data ≠ .cell v) : Inv X pins' σ H s :=
  ⟨I.ok, I.os, I.bare, I.base, I.loc, I.cell, I.free, I.freeC, fun p hp => (List.mem_append.mp hp).elim (fun z => I.pin p (List.mem_append_left _ z)) (h p), I.hok, I.len⟩

theorem nodup_ix {N : List Str} (hN : N.Nodup) {i j : Nat} {x : Str} (a : N[i]? = some x) (b : N[j]? = some x) : i = j := by
  obtain ⟨h1, e1⟩ := List.getElem?_eq_some_iff.mp a
  obtain ⟨h2, e2⟩ := List.getElem?_eq_some_iff.mp b
  exact (List.getElem_inj hN).mp (e1.trans e2.symm)

/-- a name is stored; what changed -/
theorem store_ok2 {M : Model} {A : Around} {E : Value → Shared → Prop} {i : Nat} {x : Str} {v : V} {u : Value} {Q : Unit → Shared → Prop} (I : Inv X pins σ H s) (hN : X.N.Nodup) (hi : X.N[i]? = some x) (hx : Loc X.env.scope x) (r : RelV v u)
    (h : ∀ s', Inv X pins (σ.set i (some v)) H s' → (∃ a, Heap.SameBut a s.heap s'.heap ∧ (a = X.env.locals ∨ X.env.cells.lookup x = some a)) → Q () s') (hf : X.fn x = true ∨ X.env.scope.names.lookup x = some .local := by first | exact .inl rfl | exact .inr rfl | assumption) : wpAny M A (storeName X.env x u) Q E s := by
  obtain ⟨m, hn, hl⟩ := id I.loc
  have hcls : (X.env.scope.kind == .class || (X.env.scope.kind == .module && X.env.locals != X.env.globals)) = false := by rw [I.ok.kind]; rfl
  have hiσ : i < σ.length := by rw [I.len]; exact (List.getElem?_eq_some_iff.mp hi).1
  have cne := I.cne
  have tracked : ∀ {a : Addr} {h' : Heap}, (∃ o, s.heap.get? a = some o ∧ H a = none) → Heap.SameBut a s.heap h' → HOk X.prog X.w H h' := fun {a h'} ha hs b ob e => by
    obtain ⟨_, _, hfree⟩ := ha
    refine (I.hok b ob e).stay (fun c w' hc q => (hs.2 c ?_).trans q) (fun _ q => q) fun _ _ q => q
    rintro rfl
    rcases hc with rfl | hc
    · rw [hfree] at e; cases e
    · rw [hfree] at hc; cases hc
  rcases hx with hk | hk
  · refine wpAny_storeName_local hk hn (fun h' hn' hs => ?_) hcls
    obtain ⟨oL, _, _, hoL, _⟩ := id hn
    refine h _ ⟨I.ok, I.os, I.bare, ⟨fun b o e n hb hx => ?_, fun b o e n hb hx => ?_, I.base.free, fun b o e hx => ?_, I.base.tups, I.base.frzs, I.base.tbls⟩, ⟨_, hn', fun j y v' e1 e2 e3 => ?_⟩, fun y c e => ?_, I.free, I.freeC, fun p hp => ?_, tracked ⟨oL, hoL, I.free⟩ hs, by simpa using I.len⟩ ⟨_, hs, .inl rfl⟩
    · exact (hs.2 b (Nat.ne_of_lt (Nat.lt_of_lt_of_le (Heap.lt_size e) I.ok.above))).trans (I.base.keep b o e n hb hx)
    · obtain ⟨sl, e1⟩ := I.base.slot b o e n hb hx
      exact ⟨sl, (hs.2 b (Nat.ne_of_lt (Nat.lt_of_lt_of_le (Heap.lt_size e) I.ok.above))).trans e1⟩
    · obtain ⟨o', e1⟩ := I.base.there b o e hx
      exact ⟨o', (hs.2 b (Nat.ne_of_lt (Nat.lt_of_lt_of_le (Heap.lt_size e) I.ok.above))).trans e1⟩
    · by_cases hj : j = i
      · subst hj
        rw [hi] at e1; cases e1
        rw [List.getElem?_set_self hiσ] at e2
        cases e2
        exact ⟨u, r, .inl ⟨hk, by simp⟩⟩
      · rw [List.getElem?_set_ne (Ne.symm hj)] at e2
        obtain ⟨u', r', q⟩ := hl j y v' e1 e2 e3
        refine ⟨u', r', ?_⟩
        rcases q with ⟨k, e⟩ | ⟨k, c, e, z⟩
        · refine .inl ⟨k, ?_⟩
          have : y ≠ x := fun e => hj (nodup_ix hN e1 (e ▸ hi))
          simp [this, e]
        · exact .inr ⟨k, c, e, z.sameBut hs (cne y c e)⟩
    · obtain ⟨w', z⟩ := I.cell y c e
      exact ⟨w', z.sameBut hs (cne y c e)⟩
    · obtain ⟨e, n, ne, nf, d⟩ := I.pin p hp
      exact ⟨(hs.2 p.1 ne).trans e, n, ne, nf, d⟩
  · have hfn : X.fn x = true := by
      rcases hf with z | z
      · exact z
      · rw [z] at hk; cases hk
    obtain ⟨c, hc⟩ := I.ok.has x (.inl hk)
    obtain ⟨w', z⟩ := I.cell x c hc
    refine wpAny_storeName_cell I.ok.kind hk hc z (fun h' hc' hs => ?_)
    obtain ⟨oc, hoc, hocd⟩ := id z
    refine h { s with heap := h' } ⟨I.ok, I.os, I.bare, ⟨fun b o e n hb hx => ?_, fun b o e n hb hx => ?_, I.base.free, fun b o e hx => ?_, I.base.tups, I.base.frzs, I.base.tbls⟩, ⟨m, hn.sameBut hs (Ne.symm (cne x c hc)), fun j y v' e1 e2 e3 => ?_⟩, fun y c' e => ?_, I.free, I.freeC, fun p hp => ?_, tracked ⟨oc, hoc, I.freeC x c hc⟩ hs, by simpa using I.len⟩ ⟨c, hs, .inr hc⟩
    · exact (hs.2 b (Nat.ne_of_lt (Nat.lt_of_lt_of_le (Heap.lt_size e) (I.ok.cab x c hfn hc)))).trans (I.base.keep b o e n hb hx)
    · obtain ⟨sl, e1⟩ := I.base.slot b o e n hb hx
      exact ⟨sl, (hs.2 b (Nat.ne_of_lt (Nat.lt_of_lt_of_le (Heap.lt_size e) (I.ok.cab x c hfn hc)))).trans e1⟩
    · obtain ⟨o', e1⟩ := I.base.there b o e hx
      exact ⟨o', (hs.2 b (Nat.ne_of_lt (Nat.lt_of_lt_of_le (Heap.lt_size e) (I.ok.cab x c hfn hc)))).trans e1⟩
    · by_cases hj : j = i
      · subst hj
        rw [hi] at e1; cases e1
        rw [List.getElem?_set_self hiσ] at e2
        cases e2
        exact ⟨u, r, .inr ⟨.inl hk, c, hc, hc'⟩⟩
      · rw [List.getElem?_set_ne (Ne.symm hj)] at e2
        obtain ⟨u', r', q⟩ := hl j y v' e1 e2 e3
        refine ⟨u', r', ?_⟩
        rcases q with q | ⟨k, c', e, z'⟩
        · exact .inl q
        · refine .inr ⟨k, c', e, z'.sameBut hs ?_⟩
          rintro rfl
          exact hj (nodup_ix hN e1 (I.ok.inj _ _ _ e hc ▸ hi))
    · by_cases hcc : c' = c
      · subst hcc; exact ⟨_, hc'⟩
      · obtain ⟨w2, z2⟩ := I.cell y c' e
        exact ⟨w2, z2.sameBut hs hcc⟩
    · obtain ⟨e, n, ne, nf, d⟩ := I.pin p hp
      refine ⟨(hs.2 p.1 ?_).trans e, n, ne, nf, d⟩
      intro q
      rw [q, hoc] at e
      have q' : oc = p.2 := Option.some.inj e
      exact d w' (by rw [← q']; exact hocd)
theorem store_ok {M : Model} {A : Around} {E : Value → Shared → Prop} {i : Nat} {x : Str} {v : V} {u : Value} {Q : Unit → Shared → Prop} (I : Inv X pins σ H s) (hN : X.N.Nodup) (hi : X.N[i]? = some x) (hx : Loc X.env.scope x) (r : RelV v u)
    (h : ∀ s', Inv X pins (σ.set i (some v)) H s' → Q () s') (hf : X.fn x = true ∨ X.env.scope.names.lookup x = some .local := by first | exact .inl rfl | exact .inr rfl | assumption) : wpAny M A (storeName X.env x u) Q E s :=
  store_ok2 I hN hi hx r (fun s' I' _ => h s' I') hf
/-- behind a call or a block, the state as it is -/
theorem Inv.call' {s' : Shared} {ch : List Addr} (I : Inv X pins σ H s) (ho : s'.os = s.os) (u : Un (frs X.stack) ch H H' s.heap s'.heap) (hok : HOk X.prog X.w H' s'.heap) (hg : AllBare s'.gens)
    (hch : ∀ b ∈ ch, (b ∈ X.ex ∨ X.s₀.heap.objs.size ≤ b) ∧ b ≠ X.env.locals ∧ (∀ x c, X.env.cells.lookup x = some c → c ≠ b) ∧ ∀ p ∈ X.pn ++ pins, p.1 ≠ b) : Inv X pins σ H' s' := by
  obtain ⟨h', g', d', t', o'⟩ := s'
  have e : o' = s.os := ho
  subst e
  exact I.call (g' := g') (t' := t') (d' := d') u hok hg hch
end

/-! ### the judgements -/
/-- an exception: its class, its own dict's address (where it has one), the abstract heap behind it -/
abbrev XK := Value → Option Addr → Hp → Prop
abbrev St := List (Option V)
abbrev VK := V → Hp → Prop
/-- an expression's reading; a test's; an argument list's -/
abbrev TE := St → Hp → VK → Prop
abbrev TT := St → Hp → (Bool → Hp → Prop) → Prop
abbrev TA := St → Hp → (List V → Hp → Prop) → Prop
/-- what is wanted behind a statement -/
structure Ends where
  nx : St → Hp → Prop
  rt : VK
  bk : St → Hp → Prop := fun _ _ => False
  ct : St → Hp → Prop := fun _ _ => False
abbrev TS := Ends → St → Hp → Prop

def EP (X : Cx) (pins : List (Addr × Obj)) (σ : St) (Q : VK) (u : Value) (s' : Shared) : Prop := ∃ v H', Inv X pins σ H' s' ∧ RelV v u ∧ Q v H'
def TP (X : Cx) (pins : List (Addr × Obj)) (σ : St) (Q : Bool → Hp → Prop) (b : Bool) (s' : Shared) : Prop := ∃ H', Inv X pins σ H' s' ∧ Q b H'
def AP (X : Cx) (pins : List (Addr × Obj)) (σ : St) (Q : List V → Hp → Prop) (us : List Value) (s' : Shared) : Prop := ∃ vs H', Inv X pins σ H' s' ∧ Vals vs us ∧ Q vs H'
def SP (X : Cx) (pins : List (Addr × Obj)) (D : Ends) (f : Flow) (s' : Shared) : Prop :=
  match f with
  | .next => ∃ σ' H', Inv X pins σ' H' s' ∧ D.nx σ' H'
  | .brk => ∃ σ' H', Inv X pins σ' H' s' ∧ D.bk σ' H'
  | .cont => ∃ σ' H', Inv X pins σ' H' s' ∧ D.ct σ' H'
  | .ret u => ∃ v σ' H', Inv X pins σ' H' s' ∧ RelV v u ∧ D.rt v H'

def PE (X : Cx) (e : Expr) (t : TE) : Prop :=
  ∀ (pins : List (Addr × Obj)) (s : Shared) (σ : St) (H : Hp) (Q : VK), Inv X pins σ H s → t σ H Q → wpAny (model X.prog X.w) X.A (eval e X.env) (EP X pins σ Q) X.xe s
def PT (X : Cx) (e : Expr) (t : TT) : Prop :=
  ∀ (pins : List (Addr × Obj)) (s : Shared) (σ : St) (H : Hp) (Q : Bool → Hp → Prop), Inv X pins σ H s → t σ H Q → wpAny (model X.prog X.w) X.A (isTrue e X.env (eval e X.env)) (TP X pins σ Q) X.xe s
/-- a test whatever its 'whole' is (and, or) -/
def PW (X : Cx) (e : Expr) (t : TT) : Prop :=
  ∀ (whole : Sem Value) (pins : List (Addr × Obj)) (s : Shared) (σ : St) (H : Hp) (Q : Bool → Hp → Prop), Inv X pins σ H s → t σ H Q → wpAny (model X.prog X.w) X.A (isTrue e X.env whole) (TP X pins σ Q) X.xe s
theorem PW.pt {X : Cx} {e : Expr} {t : TT} (h : PW X e t) : PT X e t := h _
/-- an argument list (no star), from the left -/
def PA (X : Cx) (es : List Expr) (t : TA) : Prop :=
  ∀ (pos : Pos) (pins : List (Addr × Obj)) (s : Shared) (σ : St) (H : Hp) (Q : List V → Hp → Prop), Inv X pins σ H s → t σ H Q → wpAny (model X.prog X.w) X.A (spliced (backTo pos (starEach es X.env))) (AP X pins σ Q) X.xe s
def PS (X : Cx) (st : Stmt) (t : TS) : Prop :=
  ∀ (pins : List (Addr × Obj)) (s : Shared) (σ : St) (H : Hp) (D : Ends), Inv X pins σ H s → t D σ H → wpAny (model X.prog X.w) X.A (exec st X.env) (SP X pins D) X.xe s
def PSs (X : Cx) (st : List Stmt) (t : TS) : Prop :=
  ∀ (pins : List (Addr × Obj)) (s : Shared) (σ : St) (H : Hp) (D : Ends), Inv X pins σ H s → t D σ H → wpAny (model X.prog X.w) X.A (execs st X.env) (SP X pins D) X.xe s
/-- weaken the end -/
theorem thn {α : Type} {t : Sem α} {Q Q' : α → Shared → Prop} {M : Model} {A : Around} {E : Value → Shared → Prop} {s : Shared} (h : wpAny M A t Q E s) (hQ : ∀ a s, Q a s → Q' a s) : wpAny M A t Q' E s := wpAny_mono h hQ fun _ _ x => x
end L2

namespace L2
open PySem PySem.Spec PyProof.Rows
section
variable {X : Cx}

/-! ### names and constants -/
def tVar (i : Nat) : TE := fun σ H Q => ∃ v, σ[i]? = some (some v) ∧ Q v H
def tC (v : V) : TE := fun _ H Q => Q v H
theorem pe_var {i : Nat} {x : Str} {pos : Pos} (hN : X.N[i]? = some x) (hv : Vis X.env.scope x) (hd : (x == ("__debug__" : Str)) = false := by decide) (hcd : (x == ("__classdict__" : Str)) = false := by decide) : PE X (.Name x pos) (tVar i) := by
  intro pins s σ H Q I h
  obtain ⟨v, e, h⟩ := h
  obtain ⟨m, hn, hl⟩ := I.loc
  obtain ⟨u, r, l⟩ := hl i x v hN e hv
  have fin : EP X pins σ Q u s := ⟨v, H, I, r, h⟩
  rcases l with ⟨hk, hm⟩ | ⟨hk, c, hc, hcell⟩
  · exact wpAny_Name (wpAny_loadName_local I.ok.kind hk hn hm fin) hd
  · rcases hk with hk | hk
    · exact wpAny_Name (wpAny_loadName_cell I.ok.kind hk hc hcell fin) hd
    · exact wpAny_Name (wpAny_loadName_free I.ok.kind hk hc hcell fin hcd) hd
theorem pe_int {i j pos} : PE X (.Constant (.int i) j pos) (tC (.int i)) := fun _ _ _ H _ I h => wpAny_Constant_int ⟨.int i, H, I.tok _, ⟨_, rfl⟩, h⟩
theorem pe_bl {b j pos} : PE X (.Constant (.bool b) j pos) (tC (.bl b)) := fun _ _ _ H _ I h => Constant_bool ⟨.bl b, H, I, rfl, h⟩
theorem pe_non {j pos} : PE X (.Constant .none j pos) (tC .non) := fun _ _ _ H _ I h => Constant_none ⟨.non, H, I, rfl, h⟩
theorem pe_str {x j pos} : PE X (.Constant (.str x) j pos) (tC (.str x)) := fun _ _ _ H _ I h => Calls.Constant_str ⟨.str x, H, I.tok _, ⟨_, rfl⟩, h⟩

/-- a global name of the def -/
def Gl (X : Cx) (x : Str) : Prop := X.env.kindOf x = some .globalImplicit
theorem ld_glob {E : Value → Shared → Prop} {pins : List (Addr × Obj)} {s : Shared} {σ : St} {H : Hp} {x : Str} {u : Value} {pos : Pos} {Q : Value → Shared → Prop} (I : Inv X pins σ H s) (hg : Gl X x) (hm : X.mg x = some u) (h : Q u s)
    (hd : (x == ("__debug__" : Str)) = false := by decide) : wpAny (model X.prog X.w) X.A (eval (.Name x pos) X.env) Q E s :=
  Calls.Name_function_global I.ok.kind hg (Calls.loadGlobal_global (by rw [I.ok.glob]; exact I.mod.glob.keeps I.bk) hm h) hd
theorem ld_blt {E : Value → Shared → Prop} {pins : List (Addr × Obj)} {s : Shared} {σ : St} {H : Hp} {x : Str} {u : Value} {pos : Pos} {Q : Value → Shared → Prop} (I : Inv X pins σ H s) (hg : Gl X x) (hm : X.mg x = none) (hv : bootBuiltins x = some u) (h : Q u s)
    (hn : x ≠ "__name__" := by decide) (hd : (x == ("__debug__" : Str)) = false := by decide) : wpAny (model X.prog X.w) X.A (eval (.Name x pos) X.env) Q E s := by
  obtain ⟨mb, h1, h2⟩ := I.mod.blt
  exact Calls.Name_function_global I.ok.kind hg (Calls.loadGlobal_builtin (by rw [I.ok.glob]; exact I.mod.glob.keeps I.bk) hm (by rw [I.ok.blt]; exact h1.keeps I.bk) ((h2 x hn).trans hv) h) hd
/-- a module's constant, a class, a function, as a value -/
theorem pe_glob {x : Str} {v : V} {u : Value} {pos : Pos} (hg : Gl X x) (hm : X.mg x = some u) (r : RelV v u) (hd : (x == ("__debug__" : Str)) = false := by decide) : PE X (.Name x pos) (tC v) :=
  fun _ _ _ H _ I h => ld_glob I hg hm ⟨v, H, I, r, h⟩ hd
theorem pe_bltn {x : Str} {v : V} {u : Value} {pos : Pos} (hg : Gl X x) (hm : X.mg x = none) (hv : bootBuiltins x = some u) (r : RelV v u) (hn : x ≠ "__name__" := by decide) (hd : (x == ("__debug__" : Str)) = false := by decide) : PE X (.Name x pos) (tC v) :=
  fun _ _ _ H _ I h => ld_blt I hg hm hv ⟨v, H, I, r, h⟩ hn hd

/-! ### arithmetic -/
/-- two ints -/
def t2I (ta tb : TE) (k : Int → Int → Hp → Prop) : St → Hp → Prop := fun σ H => ta σ H fun x H1 => tb σ H1 fun y H2 => ∃ i j, x = .int i ∧ y = .int j ∧ k i j H2
def tAdd (ta tb : TE) : TE := fun σ H Q => t2I ta tb (fun i j H2 => Q (.int (i + j)) H2) σ H
def tSub (ta tb : TE) : TE := fun σ H Q => t2I ta tb (fun i j H2 => Q (.int (i - j)) H2) σ H
/-- the left factor below 2^64 -/
def tMul (ta tb : TE) : TE := fun σ H Q => t2I ta tb (fun i j H2 => (-(2 ^ 64) < i ∧ i < 2 ^ 64) ∧ Q (.int (i * j)) H2) σ H
variable {a b : Expr} {ta tb : TE} {pos : Pos}
/-! ### comparisons -/
def PC (X : Cx) (op : CmpOp) (a b : Expr) (t : TE) : Prop :=
  ∀ (pins : List (Addr × Obj)) (s : Shared) (σ : St) (H : Hp) (Q : VK), Inv X pins σ H s → t σ H Q →
    wpAny (model X.prog X.w) X.A (eval a X.env) (fun v s₁ => wpAny (model X.prog X.w) X.A (eval b X.env) (fun u s₂ => wpAny (model X.prog X.w) X.A (compareOp op v u) (EP X pins σ Q) X.xe s₂) X.xe s₁) X.xe s
theorem nobehind (b : Expr) {op : CmpOp} (h : op ≠ .In) (h2 : op ≠ .NotIn) : behindInMarks op b = false := by
  have e1 : (op == CmpOp.In) = false := by cases op <;> first | rfl | exact absurd rfl h
  have e2 : (op == CmpOp.NotIn) = false := by cases op <;> first | rfl | exact absurd rfl h2
  cases b <;> simp [behindInMarks, e1, e2]
def tCmp (p : Int → Int → Bool) (ta tb : TE) : TE := fun σ H Q => t2I ta tb (fun i j H2 => Q (.bl (p i j)) H2) σ H
abbrev tLt : TE → TE → TE := tCmp fun i j => decide (i < j)
abbrev tLe : TE → TE → TE := tCmp fun i j => decide (i ≤ j)
abbrev tGt : TE → TE → TE := tCmp fun i j => decide (j < i)
abbrev tGe : TE → TE → TE := tCmp fun i j => decide (j ≤ i)
abbrev tEqI : TE → TE → TE := tCmp fun i j => decide (i = j)
abbrev tNeI : TE → TE → TE := tCmp fun i j => !decide (i = j)
/-- is None -/
def tIsN (ta : TE) : TE := fun σ H Q => ta σ H fun x H1 => Q (.bl (decide (x = .non))) H1
def tNotN (ta : TE) : TE := fun σ H Q => ta σ H fun x H1 => Q (.bl (!decide (x = .non))) H1
/-- a comparison as a value, as a test -/
def tB (t : TE) : TT := fun σ H Q => t σ H fun x H1 => ∃ c, x = .bl c ∧ Q c H1
theorem pt_cmp {op : CmpOp} {t : TE} (h : PC X op a b t) (h1 : behindInMarks op b = false := by first | exact nobehind _ (by decide) (by decide) | rfl) : PT X (.Compare a [op] [b] pos) (tB t) := by
  intro pins s σ H Q I hw
  refine wpAny_isTrue_Compare1 (thn (h pins s σ H _ I hw) fun v s1 h1 => thn h1 fun u s2 h2 => thn h2 fun c s3 ⟨x, H1, I1, r1, q1⟩ => ?_) h1
  obtain ⟨d, rfl, q⟩ := q1
  cases r1
  exact wpAny_truthy_bool ⟨H1, I1, q⟩
/-- an expression whose value is a bool, as a test -/
theorem pt_val {e : Expr} {t : TE} (h : PE X e t) (he : ∀ whole, isTrue e X.env whole = (do let v ← whole; standAt e.pos; holding [v] (truthy v)) := by intro _; rfl) : PT X e (tB t) := by
  intro pins s σ H Q I hw
  refine isTrue_plain (thn (h pins s σ H _ I hw) fun v s1 ⟨x, H1, I1, r1, q1⟩ => ?_) (he _)
  obtain ⟨d, rfl, q⟩ := q1
  cases r1
  exact wpAny_truthy_bool ⟨H1, I1, q⟩

/-! ### and, or, not -/
variable {tA tB' : TT} {rest : List Expr}
def tAnd (t u : TT) : TT := fun σ H Q => t σ H fun c H1 => if c = true then u σ H1 Q else Q false H1
def tOr (t u : TT) : TT := fun σ H Q => t σ H fun c H1 => if c = true then Q true H1 else u σ H1 Q
def tNot (t : TT) : TT := fun σ H Q => t σ H fun c H1 => Q (!c) H1
theorem pw_and1 (ha : PT X a tA) : PW X (.BoolOp .And [a] pos) tA := by
  intro wh pins s σ H Q I h
  refine isTrue_and (thn (ha pins s σ H Q I h) fun c s1 e => ?_)
  cases c with
  | true => exact isTrue_and_nil e
  | false => exact e
theorem pw_or1 (ha : PT X a tA) : PW X (.BoolOp .Or [a] pos) tA := by
  intro wh pins s σ H Q I h
  refine isTrue_or (thn (ha pins s σ H Q I h) fun c s1 e => ?_)
  cases c with
  | false => exact isTrue_or_nil e
  | true => exact e
theorem pw_and (ha : PT X a tA) (hb : PW X (.BoolOp .And (b :: rest) pos) tB') : PW X (.BoolOp .And (a :: b :: rest) pos) (tAnd tA tB') := by
  intro wh pins s σ H Q I h
  refine isTrue_and (thn (ha pins s σ H _ I h) fun c s1 ⟨H1, I1, q1⟩ => ?_)
  cases c with
  | true => exact hb wh pins s1 σ H1 Q I1 q1
  | false => exact ⟨H1, I1, q1⟩
theorem pw_or (ha : PT X a tA) (hb : PW X (.BoolOp .Or (b :: rest) pos) tB') : PW X (.BoolOp .Or (a :: b :: rest) pos) (tOr tA tB') := by
  intro wh pins s σ H Q I h
  refine isTrue_or (thn (ha pins s σ H _ I h) fun c s1 ⟨H1, I1, q1⟩ => ?_)
  cases c with
  | true => exact ⟨H1, I1, q1⟩
  | false => exact hb wh pins s1 σ H1 Q I1 q1
/-- .. as values (bools) -/
def tAndV (ta tb : TE) : TE := fun σ H Q => ta σ H fun x H1 => ∃ c, x = .bl c ∧ if c = true then tb σ H1 Q else Q (.bl false) H1
def tOrV (ta tb : TE) : TE := fun σ H Q => ta σ H fun x H1 => ∃ c, x = .bl c ∧ if c = true then Q (.bl true) H1 else tb σ H1 Q
def tNotV (ta : TE) : TE := fun σ H Q => ta σ H fun x H1 => ∃ c, x = .bl c ∧ Q (.bl (!c)) H1
theorem pe_one {op} {t : TE} (h : PE X a t) : PE X (.BoolOp op [a] pos) t := fun pins s σ H Q I hw => BoolOp_one (h pins s σ H Q I hw)
theorem pe_and (ha : PE X a ta) (hb : PE X (.BoolOp .And (b :: rest) pos) tb) : PE X (.BoolOp .And (a :: b :: rest) pos) (tAndV ta tb) := by
  intro pins s σ H Q I h
  refine BoolOp_and (thn (ha pins s σ H _ I h) fun v s1 ⟨x, H1, I1, r1, q1⟩ => ?_)
  obtain ⟨c, rfl, q1⟩ := q1
  cases r1
  refine wpAny_truthy_bool ?_
  cases c with
  | true => exact hb pins s1 σ H1 Q I1 q1
  | false => exact ⟨.bl false, H1, I1, rfl, q1⟩
/-- a if t else b -/
def tIf (t : TT) (ta tb : TE) : TE := fun σ H Q => t σ H fun c H1 => if c = true then ta σ H1 Q else tb σ H1 Q
end
end L2

namespace L2
open PySem PySem.Spec PyProof.Rows

/-! ### a list, a tuple that is read: tracked, frozen, or an object of the module -/
def SqL (K : PySem.W.Frag) (H : Hp) (a : Addr) (xs : List V) : Prop :=
  Rd H a (.lst xs) ∨
    ∃ (o : Obj) (its : Array Value) (n : Nat), K.lookup a = some o ∧ o.cls = .type "list" ∧ o.dict = none ∧ o.data = .seq its n ∧ its.size ≤ sizeLine ∧ Vals xs its.toList
def SqT (K : PySem.W.Frag) (H : Hp) (a : Addr) (xs : List V) : Prop :=
  Rd H a (.tup xs) ∨
    ∃ (o : Obj) (its : Array Value) (n : Nat), K.lookup a = some o ∧ o.cls = .type "tuple" ∧ o.data = .seq its n ∧ its.size ≤ sizeLine ∧ Vals xs its.toList
def absV : Value → Option V
  | .none => some .non
  | .bool b => some (.bl b)
  | .int i _ => some (.int i)
  | .str x _ => some (.str x)
  | .bytes b _ => some (.byt b)
  | .float b _ => some (.flt b)
  | .ref a => some (.ref a)
  | .type n => some (.ty n)
  | _ => none
theorem RelV.abs {x : V} {u : Value} (r : RelV x u) : absV u = some x := by
  cases x with
  | non => cases r; rfl
  | bl _ => cases r; rfl
  | int _ => obtain ⟨t, rfl⟩ := r; rfl
  | str _ => obtain ⟨t, rfl⟩ := r; rfl
  | byt _ => obtain ⟨t, rfl⟩ := r; rfl
  | flt _ => obtain ⟨t, rfl⟩ := r; rfl
  | ref _ => cases r; rfl
  | ty _ => cases r; rfl
theorem RelV.inj {x y : V} {u : Value} (r : RelV x u) (q : RelV y u) : x = y := Option.some.inj (r.abs.symm.trans q.abs)
theorem Vals.inj : ∀ {xs ys : List V} {us : List Value}, Vals xs us → Vals ys us → xs = ys
  | _, _, _, .nil, .nil => rfl
  | _, _, _, .cons r t, .cons r' t' => by rw [r.inj r', Vals.inj t t']
section
variable {X : Cx} {pins : List (Addr × Obj)} {σ : St} {H : Hp} {s : Shared} {a : Addr} {xs ys : List V}
theorem SqL.of {K : PySem.W.Frag} (h : H a = some (.lst xs)) : SqL K H a xs := .inl (.inl h)
theorem SqT.of {K : PySem.W.Frag} (h : H a = some (.tup xs)) : SqT K H a xs := .inl (.inl h)
theorem Inv.list (I : Inv X pins σ H s) (h : SqL X.K H a xs) : ∃ its : List Value, Vals xs its ∧ PlainL s.heap a its.toArray ∧ xs.length ≤ sizeLine := by
  rcases h with h | ⟨o, its, n, hk, hc, hd, hs, hz, r⟩
  · obtain ⟨z, its, n, r, e⟩ := h.ok I.hok
    exact ⟨its, r, ⟨_, n, e, rfl, rfl, rfl⟩, z⟩
  · refine ⟨its.toList, r, ⟨o, n, I.kIn a o hk, hc, hd, by simpa using hs⟩, ?_⟩
    have e := r.length
    simp only [Array.length_toList] at e
    omega
theorem Inv.tuple (I : Inv X pins σ H s) (h : SqT X.K H a xs) : ∃ its : List Value, Vals xs its ∧ IsTup s.heap a its.toArray ∧ xs.length ≤ sizeLine := by
  rcases h with h | ⟨o, its, n, hk, hc, hs, hz, r⟩
  · obtain ⟨z, its, r, p⟩ := h.ok I.hok
    exact ⟨its, r, p, z⟩
  · refine ⟨its.toList, r, ⟨o, I.kIn a o hk, hc, n, by simpa using hs⟩, ?_⟩
    have e := r.length
    simp only [Array.length_toList] at e
    omega
theorem Inv.list_inj (I : Inv X pins σ H s) (h : SqL X.K H a xs) (h' : SqL X.K H a ys) : xs = ys := by
  obtain ⟨its, r, ⟨o, n, e, _, _, d⟩, _⟩ := I.list h
  obtain ⟨its', r', ⟨o', n', e', _, _, d'⟩, _⟩ := I.list h'
  rw [e] at e'; cases e'
  rw [d] at d'
  injection d' with d1 _
  have : its = its' := by simpa using congrArg Array.toList d1
  subst this
  exact r.inj r'
end

/-! ### another wish about exceptions -/
abbrev Cx.wish (X : Cx) (E : Value → Shared → Prop) : Cx := { X with xe := E }
/-- no exception leaves -/
abbrev Cx.nox (X : Cx) : Cx := X.wish fun _ _ => False
theorem Cx.Ok.wish {X : Cx} (ok : X.Ok) (E : Value → Shared → Prop) : (X.wish E).Ok :=
  ⟨ok.mod, ok.kind, ok.glob, ok.blt, ok.above, ok.inj, ok.has, ok.cab, ok.hd, ok.frames, ok.stk, ok.exf, ok.bs, ok.bsz, ok.noex, ok.exfs, ok.funs, ok.frf⟩
theorem Cx.Ok.unwish {X : Cx} {E : Value → Shared → Prop} (ok : (X.wish E).Ok) : X.Ok :=
  ⟨ok.mod, ok.kind, ok.glob, ok.blt, ok.above, ok.inj, ok.has, ok.cab, ok.hd, ok.frames, ok.stk, ok.exf, ok.bs, ok.bsz, ok.noex, ok.exfs, ok.funs, ok.frf⟩
section
variable {X : Cx} {pins : List (Addr × Obj)} {σ : St} {H : Hp} {s : Shared} {E : Value → Shared → Prop}
theorem Inv.wish (I : Inv X pins σ H s) (E : Value → Shared → Prop) : Inv (X.wish E) pins σ H s := ⟨I.ok.wish E, I.os, I.bare, I.base, I.loc, I.cell, I.free, I.freeC, I.pin, I.hok, I.len⟩
theorem Inv.unwish (I : Inv (X.wish E) pins σ H s) : Inv X pins σ H s := ⟨I.ok.unwish, I.os, I.bare, I.base, I.loc, I.cell, I.free, I.freeC, I.pin, I.hok, I.len⟩
theorem SP.unwish {D : Ends} {f : Flow} {s' : Shared} (h : SP (X.wish E) pins D f s') : SP X pins D f s' := by
  cases f with
  | next => obtain ⟨σ', H', I, q⟩ := h; exact ⟨σ', H', I.unwish, q⟩
  | brk => obtain ⟨σ', H', I, q⟩ := h; exact ⟨σ', H', I.unwish, q⟩
  | cont => obtain ⟨σ', H', I, q⟩ := h; exact ⟨σ', H', I.unwish, q⟩
  | ret u => obtain ⟨v, σ', H', I, r, q⟩ := h; exact ⟨v, σ', H', I.unwish, r, q⟩
theorem PE.nox {e : Expr} {t : TE} (h : PE X.nox e t) : PE X e t := fun pins s σ H Q I hw =>
  wpAny_mono (h pins s σ H Q (I.wish _) hw) (fun _ _ ⟨v, H', I', r, q⟩ => ⟨v, H', I'.unwish, r, q⟩) fun _ _ z => False.elim z
theorem PT.nox {e : Expr} {t : TT} (h : PT X.nox e t) : PT X e t := fun pins s σ H Q I hw =>
  wpAny_mono (h pins s σ H Q (I.wish _) hw) (fun _ _ ⟨H', I', q⟩ => ⟨H', I'.unwish, q⟩) fun _ _ z => False.elim z
theorem PSs.nox {st : List Stmt} {t : TS} (h : PSs X.nox st t) : PSs X st t := fun pins s σ H D I hw =>
  wpAny_mono (h pins s σ H D (I.wish _) hw) (fun _ _ q => q.unwish) fun _ _ z => False.elim z
end

/-! ### blocks and small statements -/
section
variable {X : Cx} {st : Stmt} {rest : List Stmt} {t u : TS} {e : Expr} {te : TE} {pos : Pos}
def tNext : TS := fun D σ H => D.nx σ H
def tSeq (t u : TS) : TS := fun D σ H => t { D with nx := u D } σ H
theorem pss_nil : PSs X [] tNext := fun _ _ σ H _ I h => wpAny_execs_nil ⟨σ, H, I, h⟩
theorem pss_cons (h1 : PS X st t) (h2 : PSs X rest u) : PSs X (st :: rest) (tSeq t u) := by
  intro pins s σ H D I h
  refine wpAny_execs_cons (thn (h1 pins s σ H { D with nx := u D } I h) fun f s1 q => ?_)
  cases f with
  | next =>
    obtain ⟨σ', H', I', q⟩ := q
    exact h2 pins s1 σ' H' D I' q
  | ret v => exact q
  | brk => exact q
  | cont => exact q
theorem pss_one (h1 : PS X st t) : PSs X [st] t := by
  intro pins s σ H D I h
  refine wpAny_execs_cons (thn (h1 pins s σ H D I h) fun f s1 q => ?_)
  cases f with
  | next => exact wpAny_execs_nil q
  | ret v => exact q
  | brk => exact q
  | cont => exact q
def tBreak : TS := fun D σ H => D.bk σ H
def tCont : TS := fun D σ H => D.ct σ H
/-- in a def's body nothing is shown -/
theorem Inv.quiet {pins : List (Addr × Obj)} {σ : St} {H : Hp} {s : Shared} (I : Inv X pins σ H s) : interactive X.env = false := by simp [interactive, I.ok.kind]
/-- an expression whose value is dropped -/
def tDrop (te : TE) : TS := fun D σ H => te σ H fun _ H1 => D.nx σ H1
theorem ps_expr (he : PE X e te) (hs : swapsWith e none pos.line X.env = pure false := by rfl) : PS X (.Expr e pos) (tDrop te) := by
  intro pins s σ H D I h
  exact wpAny_Expr_any (thn (he pins s σ H _ I h) fun v s1 ⟨x, H1, I1, r1, q1⟩ => ⟨σ, H1, I1, q1⟩) I.quiet hs
def tRet (te : TE) : TS := fun D σ H => te σ H D.rt
theorem ps_ret (he : PE X e te) : PS X (.Return (some e) pos) (tRet te) := by
  intro pins s σ H D I h
  exact wpAny_Return_some (thn (he pins s σ H _ I h) fun v s1 ⟨x, H1, I1, r1, q1⟩ => ⟨x, σ, H1, I1, r1, q1⟩)
def tRetN : TS := fun D _ H => D.rt .non H
def tIfS (c : TT) (t u : TS) : TS := fun D σ H => c σ H fun b H1 => if b = true then t D σ H1 else u D σ H1
theorem ps_if {c : Expr} {a b : List Stmt} {tc : TT} (hc : PT X c tc) (ha : PSs X a t) (hb : PSs X b u) : PS X (.If c a b pos) (tIfS tc t u) := by
  intro pins s σ H D I h
  refine wpAny_If (thn (hc pins s σ H _ I h) fun d s1 ⟨H1, I1, q1⟩ => ?_)
  cases d with
  | true => exact ha pins s1 σ H1 D I1 q1
  | false => exact hb pins s1 σ H1 D I1 q1
/-- code that the proof never comes to -/
def tNever : TS := fun _ _ _ => False
theorem ps_never : PS X st tNever := fun _ _ _ _ _ _ h => h.elim
theorem pss_never {sts : List Stmt} : PSs X sts tNever := fun _ _ _ _ _ _ h => h.elim
end

/-! ### targets -/
abbrev TG := V → St → Hp → (St → Hp → Prop) → Prop
abbrev TGs := List V → St → Hp → (St → Hp → Prop) → Prop
def PG (X : Cx) (target : Expr) (t : TG) : Prop :=
  ∀ (pins : List (Addr × Obj)) (s : Shared) (σ : St) (H : Hp) (v : V) (u : Value) (Q : St → Hp → Prop), Inv X pins σ H s → RelV v u → t v σ H Q →
    wpAny (model X.prog X.w) X.A (assign target X.env u) (fun _ s' => ∃ σ' H', Inv X pins σ' H' s' ∧ Q σ' H') X.xe s
/-- several targets, one after another -/
def PGs (X : Cx) (ts : List Expr) (t : TGs) : Prop :=
  ∀ (pins : List (Addr × Obj)) (s : Shared) (σ : St) (H : Hp) (vs : List V) (us : List Value) (Q : St → Hp → Prop), Inv X pins σ H s → Vals vs us → t vs σ H Q →
    wpAny (model X.prog X.w) X.A (assignInOrder ((assignEach ts X.env).map (·.2)) us) (fun _ s' => ∃ σ' H', Inv X pins σ' H' s' ∧ Q σ' H') X.xe s
/-- o[i] = v, by values -/
abbrev TSet := V → V → V → Hp → (Hp → Prop) → Prop
def PSet (X : Cx) (t : TSet) : Prop :=
  ∀ (pins : List (Addr × Obj)) (s : Shared) (σ : St) (H : Hp) (o i v : V) (ov iv u : Value) (Q : Hp → Prop), Inv X pins σ H s → RelV o ov → RelV i iv → RelV v u → t o i v H Q →
    wpAny (model X.prog X.w) X.A (setItem ov iv u) (fun _ s' => ∃ H', Inv X pins σ H' s' ∧ Q H') X.xe s
/-- a op= b, by values -/
abbrev TIp := V → V → Hp → VK → Prop
def PIp (X : Cx) (op : Operator) (t : TIp) : Prop :=
  ∀ (pins : List (Addr × Obj)) (s : Shared) (σ : St) (H : Hp) (x y : V) (v u : Value) (Q : VK), Inv X pins σ H s → RelV x v → RelV y u → t x y H Q →
    wpAny (model X.prog X.w) X.A (inplaceOp op v u) (EP X pins σ Q) X.xe s
section
variable {X : Cx} {pos : Pos}
def gName (i : Nat) : TG := fun v σ H Q => Q (σ.set i (some v)) H
theorem pg_name {i : Nat} {x : Str} (hN : X.N.Nodup) (hi : X.N[i]? = some x) (hx : Loc X.env.scope x) (hf : X.fn x = true ∨ X.env.scope.names.lookup x = some .local := by first | exact .inl rfl | exact .inr rfl | assumption) : PG X (.Name x pos) (gName i) := by
  intro pins s σ H v u Q I r h
  exact wpAny_assign_Name (store_ok I hN hi hx r (fun s' I' => ⟨_, H, I', h⟩) hf)
def gNil : TGs := fun vs σ H Q => vs = [] ∧ Q σ H
def gCons (t : TG) (u : TGs) : TGs := fun vs σ H Q => ∃ v r, vs = v :: r ∧ t v σ H fun σ' H' => u r σ' H' Q
theorem pgs_nil : PGs X [] gNil := by
  intro pins s σ H vs us Q I r h
  obtain ⟨e, h⟩ := h
  subst e
  cases r
  exact assignInOrder_nil ⟨σ, H, I, h⟩
theorem pgs_cons {e : Expr} {es : List Expr} {t : TG} {u : TGs} (h1 : PG X e t) (h2 : PGs X es u)
    (hs : (assignEach (e :: es) X.env).map (·.2) = assign e X.env :: (assignEach es X.env).map (·.2) := by rfl) : PGs X (e :: es) (gCons t u) := by
  intro pins s σ H vs us Q I r h
  obtain ⟨v, vr, e1, h⟩ := h
  subst e1
  cases r with
  | cons r rr =>
    rw [hs]
    refine assignInOrder_cons (thn (h1 pins s σ H _ _ _ I r h) fun _ s1 ⟨σ1, H1, I1, q1⟩ => ?_)
    exact h2 pins s1 σ1 H1 _ _ Q I1 rr q1
/-- (a, b, ..) = a tuple of that length -/
def gTup (K : PySem.W.Frag) (n : Nat) (t : TGs) : TG := fun v σ H Q => ∃ a xs, v = .ref a ∧ SqT K H a xs ∧ xs.length = n ∧ t xs σ H Q
theorem pg_tup {es : List Expr} {k : Nat} {t : TGs} {n : Nat} (hc : X.calm = true) (h : PGs X es t)
    (hn : (assignEach es X.env).length = n := by rfl) (hst : (assignEach es X.env).findIdx? (·.1) = none := by rfl) : PG X (.Tuple es k pos) (gTup X.K n t) := by
  intro pins s σ H v u Q I r hw
  obtain ⟨a, xs, e1, hq, hl, hw⟩ := hw
  subst e1
  cases r
  obtain ⟨its, rv, ht, hz⟩ := I.tuple hq
  refine assign_Tuple_tuple (I.ok.hd hc) ht (by simp [hn, ← hl, rv.length]) hst fun h' hx => ?_
  have I1 : Inv X pins σ H { s with heap := h' } := I.kept (t' := s.toks) fun b o e => hx b o (Nat.ne_of_lt (Heap.lt_size e)) e
  exact h pins _ σ H xs _ Q I1 (by simpa using rv) hw
/-- o[i] = .. -/
def gSub (to ti : TE) (t : TSet) : TG := fun v σ H Q => to σ H fun o H1 => ti σ H1 fun i H2 => t o i v H2 fun H3 => Q σ H3
/-- target = value -/
def tAsg (te : TE) (g : TG) : TS := fun D σ H => te σ H fun x H1 => g x σ H1 D.nx
/-- name = value -/
theorem ps_set {i : Nat} {x : Str} {e : Expr} {te : TE} {pos' : Pos} (hN : X.N.Nodup) (hi : X.N[i]? = some x) (hx : Loc X.env.scope x) (he : PE X e te) (hs : swapsWith e (some (.Name x pos')) pos.line X.env = pure false := by rfl) (hf : X.fn x = true ∨ X.env.scope.names.lookup x = some .local := by first | exact .inl rfl | exact .inr rfl | assumption) :
    PS X (.Assign [.Name x pos'] e pos) (tAsg te (gName i)) := by
  intro pins s σ H D I h
  refine wpAny_Assign_Name (thn (he pins s σ H _ I h) fun v s1 ⟨y, H1, I1, r1, q1⟩ => ?_) hs
  exact store_ok I1 hN hi hx r1 (fun s2 I2 => ⟨_, H1, I2, q1⟩) hf
/-- a, b = x, y with plain local names: stored from the right; the pair itself is not tracked (the opening rows as in PyProof/Rows/TupAssign.lean:23) -/
def tPar (i j : Nat) (ta : TA) : TS := fun D σ H => ta σ H fun vs H1 => ∃ v w, vs = [v, w] ∧ D.nx ((σ.set i (some v)).set j (some w)) H1
/-- name op= e -/
def tAug (i : Nat) (te : TE) (ti : TIp) : TS := fun D σ H => ∃ x, σ[i]? = some (some x) ∧ te σ H fun y H1 => ti x y H1 fun z H2 => D.nx (σ.set i (some z)) H2
/-- o[i] op= e -/
def tAugS (to ti te : TE) (tget : V → V → Hp → VK → Prop) (tip : TIp) (tset : TSet) : TS := fun D σ H => to σ H fun o H1 => ti σ H1 fun i H2 => tget o i H2 fun x H3 => te σ H3 fun y H4 => tip x y H4 fun z H5 => tset o i z H5 fun H6 => D.nx σ H6
/-- o[i], by values -/
def PGet (X : Cx) (t : V → V → Hp → VK → Prop) : Prop :=
  ∀ (pins : List (Addr × Obj)) (s : Shared) (σ : St) (H : Hp) (o i : V) (ov iv : Value) (Q : VK), Inv X pins σ H s → RelV o ov → RelV i iv → t o i H Q →
    wpAny (model X.prog X.w) X.A (getItem ov iv) (EP X pins σ Q) X.xe s
/-- ints -/
def ipI (f : Int → Int → Int) : TIp := fun x y H Q => ∃ i j, x = .int i ∧ y = .int j ∧ Q (.int (f i j)) H
end

/-! ### while -/
section
variable {X : Cx} {pos : Pos}
/-- the invariant W with its measure -/
def tWhile (c : TT) (tb : TS) : TS := fun D σ H => ∃ W : Nat → St → Hp → Prop, (∃ m, W m σ H) ∧ ∀ m σ H, W m σ H →
  c σ H fun b H1 => if b = true then ∃ N : St → Hp → Prop, (∀ σ' H', N σ' H' → ∃ m', m' < m ∧ W m' σ' H') ∧ tb { D with nx := N, ct := N, bk := D.nx } σ H1 else D.nx σ H1
theorem ps_while {c : Expr} {body : List Stmt} {tc : TT} {tb : TS} (hp : PassesOwn (model X.prog X.w) X.A X.env X.xe) (hc : PT X c tc) (hb : PSs X body tb) : PS X (.While c body [] pos) (tWhile tc tb) := by
  intro pins s σ H D I h
  obtain ⟨W, ⟨m0, w0⟩, turn⟩ := h
  refine wpAny_While (codeAny_whileLoop (fun n s' => ∃ σ' H', Inv X pins σ' H' s' ∧ W n σ' H') ?_ m0 ⟨σ, H, I, w0⟩)
  rintro n s1 ⟨σ1, H1, I1, w1⟩
  refine wpAny_passesOwn hp (thn (hc pins s1 σ1 H1 _ I1 (turn n σ1 H1 w1)) fun b s2 ⟨H2, I2, q2⟩ => ?_)
  cases b with
  | true =>
    obtain ⟨N, hN, q2⟩ := q2
    rw [if_pos rfl]
    refine wpAny_passesOwn hp (thn (hb pins s2 σ1 H2 _ I2 q2) fun f s3 q3 => ?_)
    cases f with
    | next =>
      obtain ⟨σ3, H3, I3, n3⟩ := q3
      obtain ⟨m', hm, w3⟩ := hN σ3 H3 n3
      exact ⟨m', hm, σ3, H3, I3, w3⟩
    | cont =>
      obtain ⟨σ3, H3, I3, n3⟩ := q3
      obtain ⟨m', hm, w3⟩ := hN σ3 H3 n3
      exact ⟨m', hm, σ3, H3, I3, w3⟩
    | brk => exact q3
    | ret v => exact q3
  | false =>
    rw [if_neg Bool.false_ne_true]
    exact wpAny_execs_nil ⟨σ1, H2, I2, q2⟩
end

/-! ### what a loop or a comprehension walks -/
/-- at turn i: it yields x (the heap may grow), or it stops -/
structure It where
  go : Nat → Hp → Prop
  yld : Nat → Hp → V → Hp → Prop
  stop : Nat → Hp → Prop
/-- the iterator's own objects may turn: they are not the frame's, not pinned, younger than the entry (or a comprehension's own) -/
def FpOk (X : Cx) (pins : List (Addr × Obj)) (H : Hp) (b : Addr) : Prop :=
  H b = none ∧ b ≠ X.env.locals ∧ b ∉ X.fs ∧ (b ∈ X.ex ∨ X.s₀.heap.objs.size ≤ b) ∧ (∀ x c, X.env.cells.lookup x = some c → c ≠ b) ∧ ∀ p ∈ X.pn ++ pins, p.1 ≠ b
theorem Inv.fpOk {X : Cx} {pins : List (Addr × Obj)} {σ : St} {H H' : Hp} {s : Shared} {b : Addr} (I : Inv X pins σ H s) (hb : s.heap.objs.size ≤ b) (hn : H' b = none) : FpOk X pins H' b := by
  refine ⟨hn, Nat.ne_of_gt (Nat.lt_of_lt_of_le I.lt hb), I.nofs hb, .inr (Nat.le_trans I.sz hb), fun x c e z => ?_, fun p hp z => ?_⟩
  · obtain ⟨v, q⟩ := I.cell x c e
    exact absurd (Nat.lt_of_lt_of_le q.lt (by rw [z]; exact hb)) (Nat.lt_irrefl _)
  · exact absurd (Nat.lt_of_lt_of_le (Heap.lt_size (I.pin p hp).1) (by rw [z]; exact hb)) (Nat.lt_irrefl _)
structure Turn (P : Program) (w : World) (K : PySem.W.Frag) (tg : Expr) (J : It) (fp : List Addr) (it : Addr) (tn : Nat → Heap → Prop) : Prop where
  mem : it ∈ fp
  obj : ∀ i h, tn i h → ∀ b ∈ fp, ∃ o, h.get? b = some o ∧ ∀ v, o.data ≠ .cell v
  keep : ∀ i h h', tn i h → (∀ b ∈ fp, ∀ o, h.get? b = some o → h'.get? b = some o) → tn i h'
  item : ∀ (X : Cx), X.prog = P → X.w = w → X.K = K → X.calm = true → ∀ (i : Nat) (pins : List (Addr × Obj)) (s : Shared) (σ : St) (H : Hp) (E : Value → Shared → Prop), Inv X pins σ H s → (∀ b ∈ fp, FpOk X pins H b) → tn i s.heap → J.go i H →
    wpAny (model P w) X.A (pyNext (.ref it)) (fun r s1 => ∃ u, r = some u ∧
      wpAny (model P w) X.A (letOwnedTupleGo tg (.ref it) u) (fun _ s2 => ∃ x H', Inv X pins σ H' s2 ∧ RelV x u ∧ J.yld i H x H' ∧ tn (i + 1) s2.heap ∧ ∀ b ∈ fp, H' b = none) E s1) E s
  done : ∀ (X : Cx), X.prog = P → X.w = w → X.K = K → X.calm = true → ∀ (i : Nat) (pins : List (Addr × Obj)) (s : Shared) (σ : St) (H : Hp) (E : Value → Shared → Prop), Inv X pins σ H s → (∀ b ∈ fp, FpOk X pins H b) → tn i s.heap → J.stop i H →
    wpAny (model P w) X.A (pyNext (.ref it)) (fun r s1 => r = none ∧ Inv X pins σ H s1) E s
  self : ∀ (A : Around) (i : Nat) (s : Shared) (Q : Value → Shared → Prop) (E : Value → Shared → Prop), tn i s.heap → Q (.ref it) s → wpAny (model P w) A (pyIter (.ref it)) Q E s
abbrev TI := St → Hp → (It → Hp → Prop) → Prop
/-- an iterator has come -/
def PIE (X : Cx) (pins : List (Addr × Obj)) (σ : St) (tg : Expr) (R : It → Hp → Prop) (itv : Value) (s2 : Shared) : Prop :=
  ∃ (it : Addr) (fp : List Addr) (tn : Nat → Heap → Prop) (J : It) (H' : Hp), itv = .ref it ∧ Inv X pins σ H' s2 ∧ Turn X.prog X.w X.K tg J fp it tn ∧ tn 0 s2.heap ∧ (∀ b ∈ fp, FpOk X pins H' b) ∧ R J H'
def PI (X : Cx) (tg iter : Expr) (wi : TI) : Prop :=
  ∀ (pins : List (Addr × Obj)) (s : Shared) (σ : St) (H : Hp) (R : It → Hp → Prop), Inv X pins σ H s → wi σ H R →
    wpAny (model X.prog X.w) X.A (eval iter X.env) (fun v s1 => wpAny (model X.prog X.w) X.A (pyIter v) (PIE X pins σ tg R) X.xe s1) X.xe s

/-- the step ahead of the store is nothing for an iterator that keeps no tuple -/
theorem go_of {M : Model} {A : Around} {E : Value → Shared → Prop} {s : Shared} {tg : Expr} {it : Addr} {u : Value} {o : Obj} {n : String} {vs : Array Value} {Q : Unit → Shared → Prop} (ho : s.heap.get? it = some o) (hc : o.cls = .type n) (hd : o.data = .fields vs)
    (hn : ["enumerate", "zip", "dict_itemiterator", "dict_reverseitemiterator", "odict_iterator", "itertools.zip_longest", "itertools.pairwise"].contains n = false) (hQ : Q () s) : wpAny M A (letOwnedTupleGo tg (.ref it) u) Q E s := by
  unfold letOwnedTupleGo
  cases tg <;> first
    | exact wpAny_pure hQ
    | (cases u <;> first
        | exact wpAny_pure hQ
        | (refine wpAny_bind (wpAny_load ho ?_)
           rw [hc, hd]
           show wpAny M A (if (["enumerate", "zip", "dict_itemiterator", "dict_reverseitemiterator", "odict_iterator", "itertools.zip_longest", "itertools.pairwise"].contains n && vs[0]? == some (rawInt _)) = true then _ else _) Q E s
           rw [if_neg (by intro h; rw [hn, Bool.false_and] at h; cases h)]
           exact wpAny_pure hQ))

/-- the list at a, as it stands at each turn (a loop may append to it) -/
def Itl (K : PySem.W.Frag) (a : Addr) : It :=
  ⟨fun i H => ∃ xs x, SqL K H a xs ∧ xs[i]? = some x, fun i H x H' => H' = H ∧ ∀ xs, SqL K H a xs → xs[i]? = some x, fun i H => ∃ xs, SqL K H a xs ∧ xs.length ≤ i⟩
def Itt (K : PySem.W.Frag) (a : Addr) : It :=
  ⟨fun i H => ∃ xs x, SqT K H a xs ∧ xs[i]? = some x, fun i H x H' => H' = H ∧ ∀ xs, SqT K H a xs → xs[i]? = some x, fun i H => ∃ xs, SqT K H a xs ∧ xs.length ≤ i⟩
/-- lo, lo + 1, .. (n of them) -/
def Itr (lo : Int) (n : Nat) : It := ⟨fun i _ => i < n, fun i H x H' => H' = H ∧ x = .int (lo + i), fun i _ => n ≤ i⟩
theorem turn_list {P : Program} {w : World} {K : PySem.W.Frag} {tg : Expr} (a it : Addr) : Turn P w K tg (Itl K a) [it] it (fun i h => h.IsListIter it a i) where
  mem := by simp
  obj := fun i h st b hb => by
    have e : b = it := by simpa using hb
    subst e
    obtain ⟨o, e, c, d⟩ := st
    exact ⟨o, e, fun v z => by rw [d] at z; cases z⟩
  keep := fun i h h' st k => st.at fun o e => k it (by simp) o e
  item := by
    intro X hP hw hK hc i pins s σ H E I hf st hg
    subst hP hw hK
    obtain ⟨xs, x, hq, hx⟩ := hg
    obtain ⟨its, rv, p, hz⟩ := I.list hq
    obtain ⟨u, hu, ru⟩ := rv.get hx
    obtain ⟨f0, f1, f2, f3, f4, f5⟩ := hf it (by simp)
    refine wpAny_pyNext_list_item st p.isList (x := u) (by simpa using hu) fun h' st' sb => ?_
    have I1 : Inv X pins σ H { s with heap := h' } := I.turned (t' := s.toks) (fun b o hb e => (sb.2 b hb).trans e) f0 f1 f3 f4 f5
    obtain ⟨o, e, c, d⟩ := id st'
    exact ⟨u, rfl, go_of (s := { s with heap := h' }) e c d (by decide) ⟨x, H, I1, ru, ⟨rfl, fun ys hy => by rw [I.list_inj hy hq]; exact hx⟩, st', fun b hb => (hf b hb).1⟩⟩
  done := by
    intro X hP hw hK hc i pins s σ H E I hf st hg
    subst hP hw hK
    obtain ⟨xs, hq, hx⟩ := hg
    obtain ⟨its, rv, p, hz⟩ := I.list hq
    obtain ⟨f0, f1, f2, f3, f4, f5⟩ := hf it (by simp)
    have hl := rv.length
    exact wpAny_pyNext_list_end (I.ok.hd hc) st p.isList (by simp; omega) fun h' eb => ⟨rfl, I.turned (t' := s.toks) (fun b o hb e => eb b o hb e) f0 f1 f3 f4 f5⟩
  self := fun _ _ _ _ _ st h => wpAny_pyIter_listiter st h
theorem turn_range {P : Program} {w : World} {K : PySem.W.Frag} {tg : Expr} (it : Addr) (lo : Int) (n : Nat) : Turn P w K tg (Itr lo n) [it] it (fun i h => IsRangeIter h it (lo + (i : Nat) * 1) ((n : Int) - (i : Nat)) 1) where
  mem := by simp
  obj := fun i h st b hb => by
    have e : b = it := by simpa using hb
    subst e
    exact ⟨_, st, fun v z => by
      have z' : Data.fields _ = Data.cell v := z
      cases z'⟩
  keep := fun i h h' st k => k it (by simp) _ st
  item := by
    intro X hP hw hK hc i pins s σ H E I hf st hg
    subst hP hw hK
    obtain ⟨f0, f1, f2, f3, f4, f5⟩ := hf it (by simp)
    have W := Walks.range (prog := X.prog) (w := X.w) (I.ok.hd hc) it lo 1 n
    refine W.item i s _ _ hg st fun v h' tk hv st' kk => ?_
    obtain ⟨t, rfl⟩ := hv
    have I1 : Inv X pins σ H { s with heap := h', toks := tk } := I.turned (fun b o hb e => kk b o (by simpa using hb) e) f0 f1 f3 f4 f5
    refine ⟨_, rfl, go_of (s := { s with heap := h', toks := tk }) (n := "range_iterator") st' rfl rfl (by decide) ⟨.int (lo + i), H, I1, ⟨t, ?_⟩, ⟨rfl, rfl⟩, st', fun b hb => (hf b hb).1⟩⟩
    rw [Int.mul_one]
  done := by
    intro X hP hw hK hc i pins s σ H E I hf st hg
    subst hP hw hK
    obtain ⟨f0, f1, f2, f3, f4, f5⟩ := hf it (by simp)
    exact wpAny_pyNext_range_end (I.ok.hd hc) st (by have : n ≤ i := hg; omega) fun h' eb => ⟨rfl, I.turned (t' := s.toks) (fun b o hb e => eb b o hb e) f0 f1 f3 f4 f5⟩
  self := fun _ _ _ _ _ st h => wpAny_pyIter_rangeiter st h
end L2

namespace L2
open PySem PySem.Spec PyProof.Rows
section
variable {X : Cx} {tg : Expr}
def iList (K : PySem.W.Frag) (tl : TE) : TI := fun σ H R => tl σ H fun x H1 => ∃ a, x = .ref a ∧ (∃ xs, SqL K H1 a xs) ∧ R (Itl K a) H1
def iTup (K : PySem.W.Frag) (tl : TE) : TI := fun σ H R => tl σ H fun x H1 => ∃ a, x = .ref a ∧ (∃ xs, SqT K H1 a xs) ∧ R (Itt K a) H1
theorem pi_list {l : Expr} {tl : TE} (hl : PE X l tl) : PI X tg l (iList X.K tl) := by
  intro pins s σ H R I h
  refine thn (hl pins s σ H _ I h) fun v s1 ⟨x, H1, I1, r1, q1⟩ => ?_
  obtain ⟨a, e, ⟨xs, hq⟩, q⟩ := q1
  subst e
  cases r1
  obtain ⟨its, rv, p, hz⟩ := I1.list hq
  refine wpAny_pyIter_list p.isList ?_
  refine ⟨s1.heap.objs.size, [s1.heap.objs.size], _, _, H1, rfl, I1.kept (t' := s1.toks) fun b o e => Heap.get?_push_of_some _ e, turn_list a _, ⟨_, Heap.get?_push_size _ rfl, rfl, rfl⟩, fun b hb => ?_, q⟩
  have e : b = s1.heap.objs.size := by simpa using hb
  subst e
  exact I1.fpOk (Nat.le_refl _) (I1.hok.fresh (Nat.le_refl _))
/-- a range object just made, walked -/
theorem range_it {pins : List (Addr × Obj)} {σ : St} {H : Hp} {s : Shared} {R : It → Hp → Prop} {E : Value → Shared → Prop} {lo hi : Int} {t u v : Tok} {tk : Nat} (I : Inv X pins σ H s) (h1 : -(2 ^ 62) ≤ lo) (h2 : lo < 2 ^ 62) (h3 : -(2 ^ 62) ≤ hi) (h4 : hi < 2 ^ 62)
    (q : R (Itr lo (hi - lo).toNat) H) : wpAny (model X.prog X.w) X.A (pyIter (.ref s.heap.objs.size)) (PIE X pins σ tg R) E { s with heap := s.heap.push { cls := .type "range", data := .fields #[.int lo t, .int hi u, .int 1 v] }, toks := tk } := by
  refine wpAny_pyIter_range (IsRange.new ..) (small_one h1 h2 h3 h4) ?_
  have I1 : Inv X pins σ H { s with heap := s.heap.push { cls := .type "range", data := .fields #[.int lo t, .int hi u, .int 1 v] }, toks := tk } := I.kept fun b o e => Heap.get?_push_of_some _ e
  refine ⟨(s.heap.push { cls := .type "range", data := .fields #[.int lo t, .int hi u, .int 1 v] }).objs.size, [(s.heap.push { cls := .type "range", data := .fields #[.int lo t, .int hi u, .int 1 v] }).objs.size], _, _, H, rfl,
    I1.kept (t' := tk) fun b o e => Heap.get?_push_of_some _ e, turn_range _ lo (hi - lo).toNat, ?_, fun b hb => ?_, q⟩
  · have e1 : lo + ((0 : Nat) : Int) * 1 = lo := by simp
    have e2 : (((hi - lo).toNat : Nat) : Int) - ((0 : Nat) : Int) = Builtin.Range.rangeSize lo hi 1 := by rw [rangeSize_one]; split <;> omega
    show IsRangeIter _ _ (lo + ((0 : Nat) : Int) * 1) ((((hi - lo).toNat : Nat) : Int) - ((0 : Nat) : Int)) 1
    rw [e1, e2]
    exact Heap.get?_push_size _ rfl
  · have e : b = (s.heap.push { cls := .type "range", data := .fields #[.int lo t, .int hi u, .int 1 v] }).objs.size := by simpa using hb
    subst e
    exact I1.fpOk (Nat.le_refl _) (I1.hok.fresh (Nat.le_refl _))
def iRng1 (ta : TA) : TI := fun σ H R => ta σ H fun vs H1 => ∃ j : Int, vs = [.int j] ∧ -(2 ^ 62) ≤ j ∧ j < 2 ^ 62 ∧ R (Itr 0 j.toNat) H1
def iRng2 (ta : TA) : TI := fun σ H R => ta σ H fun vs H1 => ∃ i j : Int, vs = [.int i, .int j] ∧ (-(2 ^ 62) ≤ i ∧ i < 2 ^ 62 ∧ -(2 ^ 62) ≤ j ∧ j < 2 ^ 62) ∧ R (Itr i (j - i).toNat) H1
theorem pi_range2 {a b : Expr} {ta : TA} {p pos : Pos} (hg : Gl X "range") (hm : X.mg "range" = none) (ha : PA X [a, b] ta) (hs : starEach [a, b] X.env = [(false, eval a X.env), (false, eval b X.env)] := by rfl) (hs2 : starEach [b] X.env = [(false, eval b X.env)] := by rfl) :
    PI X tg (.Call (.Name "range" p) [a, b] [] pos) (iRng2 ta) := by
  intro pins s σ H R I h
  refine Call_ (ld_blt I hg hm boot_range (PyProof.Rows.callWith_type1 (thn (ha pos pins s σ H _ I h) fun us s1 ⟨vs, H1, I1, r1, q1⟩ => ?_) (by rw [hs, hs2]) (by rw [hs2]; rfl)))
  obtain ⟨i, j, e, ⟨q1, q2, q3, q4⟩, q⟩ := q1
  subst e
  cases r1 with
  | cons r rr =>
    cases rr with
    | cons r' rr =>
      cases rr
      obtain ⟨t, rfl⟩ := r
      obtain ⟨t', rfl⟩ := r'
      exact call_range_2 (range_it I1 q1 q2 q3 q4 q)

/-! ### for -/
/-- W: the invariant by the turn and a measure; N: what the body is to reach -/
def tFor (wi : TI) (g : TG) (tb : TS) : TS := fun D σ H => wi σ H fun J H1 => ∃ W : Nat → Nat → St → Hp → Prop, (∃ m, W 0 m σ H1) ∧ ∀ i m σ H, W i m σ H →
  (J.stop i H ∧ D.nx σ H) ∨ (J.go i H ∧ ∃ N : St → Hp → Prop, (∀ σ' H', N σ' H' → ∃ m', m' < m ∧ W (i + 1) m' σ' H') ∧ ∀ x H', J.yld i H x H' → g x σ H' fun σ2 H2 => tb { D with nx := N, ct := N, bk := D.nx } σ2 H2)
/-- the records at fp as they stand -/
def pinsAt (fp : List Addr) (h : Heap) : List (Addr × Obj) := fp.filterMap fun b => (h.get? b).map fun o => (b, o)
theorem mem_pinsAt {fp : List Addr} {h : Heap} {b : Addr} {o : Obj} (hb : b ∈ fp) (e : h.get? b = some o) : (b, o) ∈ pinsAt fp h := List.mem_filterMap.mpr ⟨b, hb, by rw [e]; rfl⟩
theorem of_pinsAt {fp : List Addr} {h : Heap} {p : Addr × Obj} (hp : p ∈ pinsAt fp h) : p.1 ∈ fp ∧ h.get? p.1 = some p.2 := by
  obtain ⟨b, hb, e⟩ := List.mem_filterMap.mp hp
  cases q : h.get? b with
  | none => rw [q] at e; cases e
  | some o =>
    rw [q] at e
    have e' : (b, o) = p := Option.some.inj e
    subst e'
    exact ⟨hb, q⟩
theorem Inv.pinned {pins : List (Addr × Obj)} {σ : St} {H : Hp} {s : Shared} {fp : List Addr} (I : Inv X pins σ H s) (hf : ∀ b ∈ fp, FpOk X pins H b) (ho : ∀ b ∈ fp, ∃ o, s.heap.get? b = some o ∧ ∀ v, o.data ≠ .cell v) : Inv X (pins ++ pinsAt fp s.heap) σ H s :=
  I.pins_of fun p hp => (List.mem_append.mp hp).elim (fun z => I.pin p (List.mem_append_right _ z)) fun z => by
    obtain ⟨hb, e⟩ := of_pinsAt z
    obtain ⟨f0, f1, f2, _⟩ := hf p.1 hb
    obtain ⟨o, e', d⟩ := ho p.1 hb
    rw [e] at e'; cases e'
    exact ⟨e, f0, f1, f2, d⟩
theorem Inv.unpinned {pins pl : List (Addr × Obj)} {σ : St} {H : Hp} {s : Shared} (I : Inv X (pins ++ pl) σ H s) : Inv X pins σ H s := I.pins_of fun p hp => I.pin p (List.mem_append_right _ (List.mem_append_left _ hp))
theorem ps_for {iter : Expr} {body : List Stmt} {wi : TI} {g : TG} {tb : TS} {pos : Pos} (hp : PassesOwn (model X.prog X.w) X.A X.env X.xe) (hc : X.calm = true) (hi : PI X tg iter wi) (hg : PG X tg g) (hb : PSs X body tb)
    (hs : ∀ x, foldedSetIterable iter X.env x = pure x := by intro _; rfl) : PS X (.For tg iter body [] pos) (tFor wi g tb) := by
  intro pins s σ H D I h
  refine wpAny_For (thn (hi pins s σ H _ I h) fun v s1 h1 => thn h1 fun itv s2 h2 => ?_) hs
  obtain ⟨it, fp, tn, J, H2, e, I2, T, st2, f2, W, ⟨m0, w0⟩, turn⟩ := h2
  subst e
  -- what stays true of the iterator's objects through the loop
  have stat : ∀ {H' : Hp}, (∀ b ∈ fp, H' b = none) → ∀ b ∈ fp, FpOk X pins H' b := fun hn b hb => ⟨hn b hb, (f2 b hb).2⟩
  refine codeAny_forLoop_any (fun n s' => ∃ i σ' H', Inv X pins σ' H' s' ∧ tn i s'.heap ∧ (∀ b ∈ fp, H' b = none) ∧ W i n σ' H') ?_ m0 ⟨0, σ, H2, I2, st2, fun b hb => (f2 b hb).1, w0⟩
  rintro n s3 ⟨i, σ3, H3, I3, st3, fr3, w3⟩
  rcases turn i n σ3 H3 w3 with ⟨stop, qn⟩ | ⟨go, N, hN, step⟩
  · refine wpAny_passesOwn hp (thn (T.done X rfl rfl rfl hc i pins s3 σ3 H3 X.xe I3 (stat fr3) st3 stop) fun r s4 ⟨hr, I4⟩ => ?_)
    subst hr
    exact wpAny_execs_nil ⟨σ3, H3, I4, qn⟩
  · refine wpAny_passesOwn hp (thn (T.item X rfl rfl rfl hc i pins s3 σ3 H3 X.xe I3 (stat fr3) st3 go) fun r s4 ⟨u, hr, h4⟩ => ?_)
    subst hr
    refine wpAny_passesOwn hp (thn h4 fun _ s5 ⟨x, H5, I5, r5, y5, st5, fr5⟩ => ?_)
    have I5' := I5.pinned (stat fr5) (T.obj _ _ st5)
    refine wpAny_passesOwn hp (thn (hg _ s5 σ3 H5 x u _ I5' r5 (step x H5 y5)) fun _ s6 ⟨σ6, H6, I6, q6⟩ => ?_)
    refine wpAny_passesOwn hp (thn (hb _ s6 σ6 H6 _ I6 q6) fun f s7 q7 => ?_)
    have again : ∀ {σ7 : St} {H7 : Hp}, Inv X (pins ++ pinsAt fp s5.heap) σ7 H7 s7 → N σ7 H7 → ∃ m, m < n ∧ ∃ i σ' H', Inv X pins σ' H' s7 ∧ tn i s7.heap ∧ (∀ b ∈ fp, H' b = none) ∧ W i m σ' H' := fun {σ7 H7} I7 n7 => by
      obtain ⟨m', hm, w7⟩ := hN σ7 H7 n7
      refine ⟨m', hm, i + 1, σ7, H7, I7.unpinned, T.keep _ _ _ st5 fun b hb o e => (I7.pin (b, o) (List.mem_append_right _ (List.mem_append_right _ (mem_pinsAt hb e)))).1, fun b hb => ?_, w7⟩
      obtain ⟨o, e, d⟩ := T.obj _ _ st5 b hb
      exact (I7.pin (b, o) (List.mem_append_right _ (List.mem_append_right _ (mem_pinsAt hb e)))).2.1
    cases f with
    | next => obtain ⟨σ7, H7, I7, n7⟩ := q7; exact again I7 n7
    | cont => obtain ⟨σ7, H7, I7, n7⟩ := q7; exact again I7 n7
    | brk => obtain ⟨σ7, H7, I7, q7⟩ := q7; exact ⟨σ7, H7, I7.unpinned, q7⟩
    | ret v => obtain ⟨x7, σ7, H7, I7, r7, q7⟩ := q7; exact ⟨x7, σ7, H7, I7.unpinned, r7, q7⟩
end

/-! ### the forms one uses -/
/-- over a list that the body leaves as it is -/
theorem for_list {K : PySem.W.Frag} {a : Addr} {xs : List V} {g : TG} {tb : TS} {D : Ends} {σ : St} {H : Hp} (Pv : Nat → St → Hp → Prop) (h0 : Pv 0 σ H) (hl : ∀ i σ H, i ≤ xs.length → Pv i σ H → SqL K H a xs)
    (hs : ∀ i x σ H, xs[i]? = some x → Pv i σ H → g x σ H fun σ2 H2 => tb { D with nx := Pv (i + 1), ct := Pv (i + 1), bk := D.nx } σ2 H2) (hd : ∀ σ H, Pv xs.length σ H → D.nx σ H) :
    ∃ W : Nat → Nat → St → Hp → Prop, (∃ m, W 0 m σ H) ∧ ∀ i m σ H, W i m σ H →
      ((Itl K a).stop i H ∧ D.nx σ H) ∨ ((Itl K a).go i H ∧ ∃ N : St → Hp → Prop, (∀ σ' H', N σ' H' → ∃ m', m' < m ∧ W (i + 1) m' σ' H') ∧ ∀ x H', (Itl K a).yld i H x H' → g x σ H' fun σ2 H2 => tb { D with nx := N, ct := N, bk := D.nx } σ2 H2) := by
  refine ⟨fun i m σ H => m = xs.length - i ∧ i ≤ xs.length ∧ Pv i σ H, ⟨xs.length, by simp, Nat.zero_le _, h0⟩, ?_⟩
  rintro i m σ H ⟨rfl, hi, p⟩
  have q := hl i σ H hi p
  by_cases hlt : i < xs.length
  · refine .inr ⟨⟨xs, xs[i], q, by simp [hlt]⟩, Pv (i + 1), fun σ' H' p' => ⟨xs.length - (i + 1), by omega, rfl, hlt, p'⟩, fun x H' y => ?_⟩
    obtain ⟨e, y⟩ := y
    subst e
    exact hs i x σ _ (y xs q) p
  · have e : i = xs.length := by omega
    subst e
    exact .inl ⟨⟨xs, q, Nat.le_refl _⟩, hd σ H p⟩
theorem for_range {lo : Int} {n : Nat} {g : TG} {tb : TS} {D : Ends} {σ : St} {H : Hp} (Pv : Nat → St → Hp → Prop) (h0 : Pv 0 σ H)
    (hs : ∀ i σ H, i < n → Pv i σ H → g (.int (lo + i)) σ H fun σ2 H2 => tb { D with nx := Pv (i + 1), ct := Pv (i + 1), bk := D.nx } σ2 H2) (hd : ∀ σ H, Pv n σ H → D.nx σ H) :
    ∃ W : Nat → Nat → St → Hp → Prop, (∃ m, W 0 m σ H) ∧ ∀ i m σ H, W i m σ H →
      ((Itr lo n).stop i H ∧ D.nx σ H) ∨ ((Itr lo n).go i H ∧ ∃ N : St → Hp → Prop, (∀ σ' H', N σ' H' → ∃ m', m' < m ∧ W (i + 1) m' σ' H') ∧ ∀ x H', (Itr lo n).yld i H x H' → g x σ H' fun σ2 H2 => tb { D with nx := N, ct := N, bk := D.nx } σ2 H2) := by
  refine ⟨fun i m σ H => m = n - i ∧ i ≤ n ∧ Pv i σ H, ⟨n, by simp, Nat.zero_le _, h0⟩, ?_⟩
  rintro i m σ H ⟨rfl, hi, p⟩
  by_cases hlt : i < n
  · refine .inr ⟨hlt, Pv (i + 1), fun σ' H' p' => ⟨n - (i + 1), by omega, rfl, hlt, p'⟩, fun x H' y => ?_⟩
    obtain ⟨e, y⟩ := y
    subst e y
    exact hs i σ _ hlt p
  · have e : i = n := by omega
    subst e
    exact .inl ⟨Nat.le_refl _, hd σ H p⟩
end L2

namespace L2
open PySem PySem.Spec PyProof.Rows

abbrev R2 := V → V → Hp → VK → Prop
/-- a two-place operation on values: f is binaryOp op, inplaceOp op or compareOp op -/
def OpR (X : Cx) (f : Value → Value → Sem Value) (r : R2) : Prop :=
  ∀ (pins : List (Addr × Obj)) (s : Shared) (σ : St) (H : Hp) (x y : V) (v u : Value) (Q : VK), Inv X pins σ H s → RelV x v → RelV y u → r x y H Q →
    wpAny (model X.prog X.w) X.A (f v u) (EP X pins σ Q) X.xe s
/-- a one-place operation -/
def UnR (X : Cx) (f : Value → Sem Value) (r : V → Hp → VK → Prop) : Prop :=
  ∀ (pins : List (Addr × Obj)) (s : Shared) (σ : St) (H : Hp) (x : V) (v : Value) (Q : VK), Inv X pins σ H s → RelV x v → r x H Q →
    wpAny (model X.prog X.w) X.A (f v) (EP X pins σ Q) X.xe s
/-- a call of a value that is known (a builtin, a type) with values -/
def CallR (X : Cx) (f : Value) (r : List V → Hp → VK → Prop) : Prop :=
  ∀ (pins : List (Addr × Obj)) (s : Shared) (σ : St) (H : Hp) (xs : List V) (us : List Value) (Q : VK), Inv X pins σ H s → Vals xs us → r xs H Q →
    wpAny (model X.prog X.w) X.A (call f us) (EP X pins σ Q) X.xe s
/-- a value's truth -/
def TruR (X : Cx) (r : V → Hp → (Bool → Hp → Prop) → Prop) : Prop :=
  ∀ (pins : List (Addr × Obj)) (s : Shared) (σ : St) (H : Hp) (x : V) (v : Value) (Q : Bool → Hp → Prop), Inv X pins σ H s → RelV x v → r x H Q →
    wpAny (model X.prog X.w) X.A (truthy v) (TP X pins σ Q) X.xe s

def tOp (r : R2) (ta tb : TE) : TE := fun σ H Q => ta σ H fun x H1 => tb σ H1 fun y H2 => r x y H2 Q
def tUn (r : V → Hp → VK → Prop) (ta : TE) : TE := fun σ H Q => ta σ H fun x H1 => r x H1 Q
/-- ints in, under C, and a value out -/
def rI (C : Int → Int → Prop) (g : Int → Int → V) : R2 := fun x y H Q => ∃ i j, x = .int i ∧ y = .int j ∧ C i j ∧ Q (g i j) H
def rI0 (g : Int → Int → V) : R2 := fun x y H Q => ∃ i j, x = .int i ∧ y = .int j ∧ Q (g i j) H
def rU (g : Int → V) : V → Hp → VK → Prop := fun x H Q => ∃ i, x = .int i ∧ Q (g i) H

section
variable {X : Cx} {a b c : Expr} {ta tb tc : TE} {pos : Pos}

theorem binT (ha : PE X a ta) (hb : PE X b tb) {pins : List (Addr × Obj)} {s : Shared} {σ : St} {H : Hp} {R : V → V → Hp → Prop} (I : Inv X pins σ H s)
    (h : ta σ H fun x H1 => tb σ H1 fun y H2 => R x y H2) {Q : Value → Shared → Prop} {f : Value → Value → Sem Value}
    (hf : ∀ v u s2 x y H2, Inv X pins σ H2 s2 → RelV x v → RelV y u → R x y H2 → wpAny (model X.prog X.w) X.A (f v u) Q X.xe s2) :
    wpAny (model X.prog X.w) X.A (eval a X.env) (fun v s₁ => wpAny (model X.prog X.w) X.A (eval b X.env) (fun u s₂ => wpAny (model X.prog X.w) X.A (f v u) Q X.xe s₂) X.xe s₁) X.xe s := by
  refine thn (ha pins s σ H _ I h) fun v s1 ⟨x, H1, I1, r1, q1⟩ => ?_
  refine thn (hb pins s1 σ H1 _ I1 q1) fun u s2 ⟨y, H2, I2, r2, q2⟩ => ?_
  exact hf v u s2 x y H2 I2 r1 r2 q2

theorem pe_op {op : Operator} {r : R2} (ho : OpR X (binaryOp op) r) (ha : PE X a ta) (hb : PE X b tb) : PE X (.BinOp a op b pos) (tOp r ta tb) := by
  intro pins s σ H Q I h
  exact wpAny_BinOp (binT ha hb I h fun v u s2 x y H2 I2 rx ry q => ho pins s2 σ H2 x y v u Q I2 rx ry q)
theorem pe_un {op : UnaryOp} {r : V → Hp → VK → Prop} (ho : UnR X (unaryOp op) r) (ha : PE X a ta) : PE X (.UnaryOp op a pos) (tUn r ta) := by
  intro pins s σ H Q I h
  exact UnaryOp_ (thn (ha pins s σ H _ I h) fun v s1 ⟨x, H1, I1, r1, q1⟩ => ho pins s1 σ H1 x v Q I1 r1 q1)
/-! ### ints -/
theorem opI {f : Value → Value → Sem Value} {C : Int → Int → Prop} {g : Int → Int → Int}
    (rule : ∀ (i j : Int) (t u : Tok) (s : Shared) (Q : Value → Shared → Prop) (E : Value → Shared → Prop), C i j → Q (.int (g i j) s.toks) { s with toks := s.toks + 1 } → wpAny (model X.prog X.w) X.A (f (.int i t) (.int j u)) Q E s) :
    OpR X f (rI C fun i j => .int (g i j)) := by
  intro pins s σ H x y v u Q I rx ry h
  obtain ⟨i, j, rfl, rfl, hc, q⟩ := h
  obtain ⟨t, rfl⟩ := rx
  obtain ⟨t', rfl⟩ := ry
  exact rule i j t t' s _ _ hc ⟨.int (g i j), H, I.tok _, ⟨_, rfl⟩, q⟩
theorem opI0 {f : Value → Value → Sem Value} {g : Int → Int → Int}
    (rule : ∀ (i j : Int) (t u : Tok) (s : Shared) (Q : Value → Shared → Prop) (E : Value → Shared → Prop), Q (.int (g i j) s.toks) { s with toks := s.toks + 1 } → wpAny (model X.prog X.w) X.A (f (.int i t) (.int j u)) Q E s) :
    OpR X f (rI0 fun i j => .int (g i j)) := by
  intro pins s σ H x y v u Q I rx ry h
  obtain ⟨i, j, rfl, rfl, q⟩ := h
  obtain ⟨t, rfl⟩ := rx
  obtain ⟨t', rfl⟩ := ry
  exact rule i j t t' s _ _ ⟨.int (g i j), H, I.tok _, ⟨_, rfl⟩, q⟩
theorem opB0 {f : Value → Value → Sem Value} {g : Int → Int → Bool}
    (rule : ∀ (i j : Int) (t u : Tok) (s : Shared) (Q : Value → Shared → Prop) (E : Value → Shared → Prop), Q (.bool (g i j)) s → wpAny (model X.prog X.w) X.A (f (.int i t) (.int j u)) Q E s) :
    OpR X f (rI0 fun i j => .bl (g i j)) := by
  intro pins s σ H x y v u Q I rx ry h
  obtain ⟨i, j, rfl, rfl, q⟩ := h
  obtain ⟨t, rfl⟩ := rx
  obtain ⟨t', rfl⟩ := ry
  exact rule i j t t' s _ _ ⟨.bl (g i j), H, I, rfl, q⟩

def CDiv (i j : Int) : Prop := 0 < j ∧ j < 1073741824
def CDivN (i j : Int) : Prop := j ≠ 0 ∧ j.natAbs < 1073741824
def CPow (i j : Int) : Prop := 0 ≤ j ∧ j ≤ 1000000 ∧ i.natAbs < 2 ^ 64
def CMul (i j : Int) : Prop := (-(2 ^ 64) < i ∧ i < 2 ^ 64) ∨ (-(2 ^ 64) < j ∧ j < 2 ^ 64)
theorem CMul.ok {i j : Int} (h : CMul i j) : IntMulOk i j := by
  rcases h with ⟨h1, h2⟩ | ⟨h1, h2⟩
  · exact .of_left (intBits_le_64 h1 h2)
  · exact .of_right (intBits_le_64 h1 h2)
theorem op_add : OpR X (binaryOp .Add) (rI0 fun i j => .int (i + j)) := opI0 fun _ _ _ _ _ _ _ q => add_int q
theorem op_sub : OpR X (binaryOp .Sub) (rI0 fun i j => .int (i - j)) := opI0 fun _ _ _ _ _ _ _ q => sub_int q
/-- % by a positive divisor of any size -/
theorem op_mod : OpR X (binaryOp .Mod) (rI (fun _ j => 0 < j) fun i j => .int (i % j)) := opI fun i j _ _ _ _ _ hc q => by
  have h1 : (0 : Int) < j := hc
  exact mod_int' (by omega) (by rw [Int.fmod_eq_emod_of_nonneg i (by omega)]; exact q)
theorem unI {f : Value → Sem Value} {g : Int → Int}
    (rule : ∀ (i : Int) (t : Tok) (s : Shared) (Q : Value → Shared → Prop) (E : Value → Shared → Prop), Q (.int (g i) s.toks) { s with toks := s.toks + 1 } → wpAny (model X.prog X.w) X.A (f (.int i t)) Q E s) :
    UnR X f (rU fun i => .int (g i)) := by
  intro pins s σ H x v Q I rx h
  obtain ⟨i, rfl, q⟩ := h
  obtain ⟨t, rfl⟩ := rx
  exact rule i t s _ _ ⟨.int (g i), H, I.tok _, ⟨_, rfl⟩, q⟩
theorem un_neg : UnR X (unaryOp .USub) (rU fun i => .int (-i)) := unI fun _ _ _ _ _ q => neg_int q
/-! ### bools among ints: n += (a < b) -/
end

/-! ### comparisons -/
/-- the scalars that == tells apart as data does -/
def scal : V → V → Bool
  | .non, .non => true | .non, .int _ => true | .int _, .non => true | .non, .bl _ => true | .bl _, .non => true | .non, .str _ => true | .str _, .non => true
  | .int _, .int _ => true | .bl _, .bl _ => true | .str _, .str _ => true | .byt _, .byt _ => true
  | .int _, .str _ => true | .str _, .int _ => true | .bl _, .str _ => true | .str _, .bl _ => true
  | _, _ => false
def rEq : R2 := fun x y H Q => scal x y = true ∧ Q (.bl (decide (x = y))) H
def rNe : R2 := fun x y H Q => scal x y = true ∧ Q (.bl (!decide (x = y))) H

theorem dec_int {i j : Int} : decide (V.int i = V.int j) = (i == j) := by
  rw [Bool.eq_iff_iff]
  simp
theorem dec_bl {i j : Bool} : decide (V.bl i = V.bl j) = (i == j) := by
  rw [Bool.eq_iff_iff]
  simp
theorem dec_str {i j : Str} : decide (V.str i = V.str j) = (i == j) := by
  rw [Bool.eq_iff_iff]
  simp
theorem dec_byt {i j : Array UInt8} : decide (V.byt i = V.byt j) = (i.toList == j.toList) := by
  rw [Bool.eq_iff_iff]
  cases i
  cases j
  simp

section
variable {X : Cx} {a b c : Expr} {ta tb tc : TE} {pos : Pos}
theorem fin_bl {pins : List (Addr × Obj)} {σ : St} {H : Hp} {s : Shared} {Q : VK} {k k' : Bool} (I : Inv X pins σ H s) (q : Q (.bl k) H) (e : k = k') : EP X pins σ Q (.bool k') s := by
  subst e
  exact ⟨.bl k, H, I, rfl, q⟩
theorem op_eq : OpR X (compareOp .Eq) rEq := by
  intro pins s σ H x y v u Q I rx ry h
  obtain ⟨hs, q⟩ := h
  cases x with
  | non =>
    cases rx
    cases y with
    | non => cases ry; exact PySem.EqNone.eq_none_none (fin_bl I q (by simp))
    | bl j => cases ry; exact PySem.EqNone.eq_none_bool (fin_bl I q (by simp))
    | int j => obtain ⟨t', rfl⟩ := ry; exact PySem.EqNone.eq_none_int (fin_bl I q (by simp))
    | str j => obtain ⟨t', rfl⟩ := ry; exact PySem.EqNone.eq_none_str (fin_bl I q (by simp))
    | _ => exact absurd (show false = true from hs) Bool.false_ne_true
  | bl i =>
    cases rx
    cases y with
    | non => cases ry; exact PySem.EqNone.eq_bool_none (fin_bl I q (by simp))
    | bl j => cases ry; exact eq_bool (fin_bl I q dec_bl)
    | str j => obtain ⟨t', rfl⟩ := ry; exact PySem.EqMixed.eq_bool_str (fin_bl I q (by simp))
    | _ => exact absurd (show false = true from hs) Bool.false_ne_true
  | int i =>
    obtain ⟨t, rfl⟩ := rx
    cases y with
    | non => cases ry; exact PySem.EqNone.eq_int_none (fin_bl I q (by simp))
    | int j => obtain ⟨t', rfl⟩ := ry; exact eq_int (fin_bl I q dec_int)
    | str j => obtain ⟨t', rfl⟩ := ry; exact PySem.EqMixed.eq_int_str (fin_bl I q (by simp))
    | _ => exact absurd (show false = true from hs) Bool.false_ne_true
  | str i =>
    obtain ⟨t, rfl⟩ := rx
    cases y with
    | non => cases ry; exact PySem.EqNone.eq_str_none (fin_bl I q (by simp))
    | bl j => cases ry; exact PySem.EqMixed.eq_str_bool (fin_bl I q (by simp))
    | int j => obtain ⟨t', rfl⟩ := ry; exact PySem.EqMixed.eq_str_int (fin_bl I q (by simp))
    | str j => obtain ⟨t', rfl⟩ := ry; exact eq_str (fin_bl I q dec_str)
    | _ => exact absurd (show false = true from hs) Bool.false_ne_true
  | byt i =>
    obtain ⟨t, rfl⟩ := rx
    cases y with
    | byt j => obtain ⟨t', rfl⟩ := ry; exact PySem.W.eq_bytes (fin_bl I q dec_byt)
    | _ => exact absurd (show false = true from hs) Bool.false_ne_true
  | _ => cases y <;> exact absurd (show false = true from hs) Bool.false_ne_true
theorem op_lt : OpR X (compareOp .Lt) (rI0 fun i j => .bl (decide (i < j))) := opB0 fun _ _ _ _ _ _ _ q => lt_int q
theorem op_le : OpR X (compareOp .LtE) (rI0 fun i j => .bl (decide (i ≤ j))) := opB0 fun _ _ _ _ _ _ _ q => le_int q
theorem op_gt : OpR X (compareOp .Gt) (rI0 fun i j => .bl (decide (j < i))) := opB0 fun _ _ _ _ _ _ _ q => gt_int q
theorem op_ge : OpR X (compareOp .GtE) (rI0 fun i j => .bl (decide (j ≤ i))) := opB0 fun _ _ _ _ _ _ _ q => ge_int q
theorem op_notN : OpR X (compareOp .IsNot) (fun x y H Q => y = .non ∧ Q (.bl (!decide (x = .non))) H) := by
  intro pins s σ H x y v u Q I rx ry h
  obtain ⟨rfl, q⟩ := h
  cases ry
  refine isnot_none_gen (fin_bl I q ?_)
  cases x <;> first
    | (cases rx; rfl)
    | (obtain ⟨t, rfl⟩ := rx; rfl)

/-- is, is not of two objects that are tracked lists or instances -/
def isObj : HO → Bool
  | .lst _ => true
  | .ins _ _ _ => true
  | _ => false
/-- two rules for one operation: by cases -/
theorem OpR.or {f : Value → Value → Sem Value} {r r' : R2} (h : OpR X f r) (h' : OpR X f r') : OpR X f (fun x y H Q => r x y H Q ∨ r' x y H Q) := by
  intro pins s σ H x y v u Q I rx ry q
  rcases q with q | q
  · exact h pins s σ H x y v u Q I rx ry q
  · exact h' pins s σ H x y v u Q I rx ry q

theorem nomark (b : Expr) {op : CmpOp} (h : op ≠ .In := by decide) (h2 : op ≠ .NotIn := by decide) : behindInMarks op b = false := by
  have e1 : (op == CmpOp.In) = false := by cases op <;> first | rfl | exact absurd rfl h
  have e2 : (op == CmpOp.NotIn) = false := by cases op <;> first | rfl | exact absurd rfl h2
  cases b <;> simp [behindInMarks, e1, e2]
/-- a comparison as a value; hm: nomark b, or (for in, not in) by with_unfolding_all rfl -/
theorem pe_cmpR {op : CmpOp} {r : R2} (ho : OpR X (compareOp op) r) (ha : PE X a ta) (hb : PE X b tb) (hm : behindInMarks op b = false) : PE X (.Compare a [op] [b] pos) (tOp r ta tb) := by
  intro pins s σ H Q I h
  exact wpAny_Compare1 (binT ha hb I h fun v u s2 x y H2 I2 rx ry q => ho pins s2 σ H2 x y v u Q I2 rx ry q) hm
/-- a reading of a value as a test -/
def tTest (t : TE) : TT := fun σ H Q => t σ H fun x H' => ∃ k, x = .bl k ∧ Q k H'
theorem pt_cmpR {op : CmpOp} {r : R2} (ho : OpR X (compareOp op) r) (ha : PE X a ta) (hb : PE X b tb) (hm : behindInMarks op b = false) : PT X (.Compare a [op] [b] pos) (tTest (tOp r ta tb)) := by
  intro pins s σ H Q I h
  refine wpAny_isTrue_Compare1 (thn (ha pins s σ H _ I h) fun v s1 ⟨x, H1, I1, r1, q1⟩ => thn (hb pins s1 σ H1 _ I1 q1) fun u s2 ⟨y, H2, I2, r2, q2⟩ =>
    thn (ho pins s2 σ H2 x y v u _ I2 r1 r2 q2) fun c s3 ⟨z, H3, I3, r3, k, e, q3⟩ => ?_) hm
  subst e
  cases r3
  exact wpAny_truthy_bool ⟨H3, I3, q3⟩
/-- a op1 b op2 c -/
def tChain (r r' : R2) (ta tb tc : TE) : TE := fun σ H Q => ta σ H fun x H1 => tb σ H1 fun y H2 => r x y H2 fun z H3 => ∃ k, z = .bl k ∧
  (if k = true then tc σ H3 fun w' H4 => r' y w' H4 Q else Q (.bl false) H3)
/-! ### truth -/
/-- a value's truth by the abstract heap -/
def TruV (K : PySem.W.Frag) (x : V) (H : Hp) (k : Bool) : Prop :=
  match x with
  | .non => k = false
  | .bl b => k = b
  | .int i => k = (i != 0)
  | .str y => y.length ≤ sizeLine ∧ k = ((y.length : Int) != 0)
  | .byt y => y.size ≤ sizeLine ∧ k = ((y.size : Int) != 0)
  | .ref p => (∃ xs, SqL K H p xs ∧ k = !xs.isEmpty) ∨ (∃ xs, SqT K H p xs ∧ k = !xs.isEmpty) ∨ ∃ kvs, H p = some (.dK kvs) ∧ k = !kvs.isEmpty
  | _ => False
theorem line63 : (sizeLine : Nat) < 2 ^ 63 := by rw [sizeLine_eq]; decide
/-! ### strs and bytes -/
def PlainIxT (b : Expr) : Prop := ∀ o i, subscripted b false o i = operate [o, i] (getItem o i)
/-! ### scalar builtins, by CallR -/
theorem vals1 {x : V} {us : List Value} (r : Vals [x] us) : ∃ u, us = [u] ∧ RelV x u := by
  cases r with
  | cons r1 r2 => cases r2; exact ⟨_, rfl, r1⟩
theorem vals2 {x y : V} {us : List Value} (r : Vals [x, y] us) : ∃ u w', us = [u, w'] ∧ RelV x u ∧ RelV y w' := by
  cases r with
  | cons r1 r2 =>
    cases r2 with
    | cons r3 r4 => cases r4; exact ⟨_, _, rfl, r1, r3⟩
theorem call_max2 (hc : X.calm = true) : CallR X (.builtin "max") (fun xs H Q => ∃ i j, xs = [.int i, .int j] ∧ Q (.int (if j > i then j else i)) H) := by
  intro pins s σ H xs us Q I r h
  obtain ⟨i, j, rfl, q⟩ := h
  obtain ⟨u, w', rfl, ⟨t, rfl⟩, ⟨t', rfl⟩⟩ := vals2 r
  refine max_two_ints (I.ok.hd hc) fun h' tk k => ⟨_, H, I.kept k, ?_, q⟩
  by_cases hj : j > i
  · rw [if_pos hj, if_pos hj]; exact ⟨_, rfl⟩
  · rw [if_neg hj, if_neg hj]; exact ⟨_, rfl⟩
theorem call_min2 (hc : X.calm = true) : CallR X (.builtin "min") (fun xs H Q => ∃ i j, xs = [.int i, .int j] ∧ Q (.int (if j < i then j else i)) H) := by
  intro pins s σ H xs us Q I r h
  obtain ⟨i, j, rfl, q⟩ := h
  obtain ⟨u, w', rfl, ⟨t, rfl⟩, ⟨t', rfl⟩⟩ := vals2 r
  refine min_two_ints (I.ok.hd hc) fun h' tk k => ⟨_, H, I.kept k, ?_, q⟩
  by_cases hj : j < i
  · rw [if_pos hj, if_pos hj]; exact ⟨_, rfl⟩
  · rw [if_neg hj, if_neg hj]; exact ⟨_, rfl⟩
/-- len of a str, a bytes, a list, a tuple -/
def LenV (K : PySem.W.Frag) (x : V) (H : Hp) (n : Nat) : Prop :=
  match x with
  | .str y => y.length ≤ sizeLine ∧ n = y.length
  | .byt y => y.size ≤ sizeLine ∧ n = y.size
  | .ref p => (∃ xs, SqL K H p xs ∧ n = xs.length) ∨ ∃ xs, SqT K H p xs ∧ n = xs.length
  | _ => False
end
end L2

namespace L2
open PySem PySem.Spec PyProof.Rows

/-! ### an instance, its attributes a map -/
structure ObjM (h : Heap) (x dx C : Addr) (mA : Str → Option Value) : Prop where
  obj : h.get? x = some (PySem.W.instObj C dx)
  ns : h.Ns1 dx mA
  ne : dx ≠ x

section
variable {prog : Program} {w : World} {A : Around} {E : Value → Shared → Prop} {s : Shared} {K : PySem.W.Frag} {x dx C f : Addr} {mA : Str → Option Value} {name : Str} {v : Value}

end

/-! ### the attributes as a list of pairs -/
def putF (f : Str) (v : V) : List (Str × V) → List (Str × V)
  | [] => [(f, v)]
  | (g, x) :: r => if g = f then (g, v) :: r else (g, x) :: putF f v r
theorem RelO.some_of {v : V} {o : Option Value} (r : RelO (some v) o) : ∃ u, o = some u ∧ RelV v u := by
  cases o with
  | none => exact (show False from r).elim
  | some u => exact ⟨u, rfl, r⟩
theorem RelO.none_of {o : Option Value} (r : RelO none o) : o = none := by
  cases o with
  | none => rfl
  | some u => exact (show False from r).elim
section
variable {P : Program} {w : World} {H H' : Hp} {h h' : Heap} {a C dx : Addr} {fs fs' : List (Str × V)}
end

/-! ### what of the text a class must have -/
structure Cls (K : PySem.W.Frag) (C : Addr) : Prop where
  pg : PySem.W.plainGet K C Str.empty = true
  hd : PySem.W.hasDictIn K C = true
  po : PySem.W.plainOver K C = true
  sa : PySem.W.findIn K (.ref C) "__setattr__" = some (some (.builtin "object.__setattr__"))
theorem Cls.get {K : PySem.W.Frag} {C : Addr} (c : Cls K C) (f : Str) : PySem.W.plainGet K C f = true := c.pg
/-- no class of it has the name -/
def NoAttr (K : PySem.W.Frag) (C : Addr) (f : Str) : Prop := PySem.W.findIn K (.ref C) f = some none
/-- a constant of the class -/
structure Con (K : PySem.W.Frag) (C : Addr) (f : Str) (v : V) (u : Value) : Prop where
  at_ : PySem.W.findIn K (.ref C) f = some (some u)
  rel : RelV v u
  get : PySem.W.specialIn K u "__get__" = some none
  cp : PySem.W.copiedNames.contains f = false
/-- a method: a plain def of the class or of one above it -/
structure Meth (K : PySem.W.Frag) (C : Addr) (m : Str) (f : Addr) : Prop where
  at_ : PySem.W.findIn K (.ref C) m = some (some (.ref f))
  fn : PySem.W.isFn K (.ref f) = true
  kp : PySem.W.keepIn K (.ref f) = true

section
variable {X : Cx} {pins : List (Addr × Obj)} {σ : St} {H : Hp} {s : Shared} {a C dx : Addr} {fs : List (Str × V)} {f : Str} {v : V} {A : Around} {E : Value → Shared → Prop}

/-- a new instance, tracked, without attributes -/
theorem Inv.made (I : Inv X pins σ H s) : Inv X pins σ (upd (upd H s.heap.objs.size (.own (s.heap.objs.size + 1))) (s.heap.objs.size + 1) (.ins C s.heap.objs.size []))
    { s with heap := (s.heap.push PySem.W.emptyDict).push (PySem.W.instObj C s.heap.objs.size) } := by
  have e1 : (s.heap.push PySem.W.emptyDict).get? s.heap.objs.size = some PySem.W.emptyDict := Heap.get?_push_size s.heap rfl
  have e2 : ((s.heap.push PySem.W.emptyDict).push (PySem.W.instObj C s.heap.objs.size)).get? (s.heap.objs.size + 1) = some (PySem.W.instObj C s.heap.objs.size) := by
    have := Heap.get?_push_size (s.heap.push PySem.W.emptyDict) (o := PySem.W.instObj C s.heap.objs.size) rfl
    rwa [Heap.size_push] at this
  have e3 : (s.heap.push PySem.W.emptyDict).Ns s.heap.objs.size (fun _ => none) := ⟨PySem.W.emptyDict, #[], _, e1, rfl, (fun e he => absurd he (by simp)), fun _ => rfl⟩
  have I1 := I.laid (a := s.heap.objs.size) (o := .own (s.heap.objs.size + 1)) (h' := s.heap.push PySem.W.emptyDict) (t' := s.toks) (fun b u q => Heap.get?_push_of_some _ q) (Nat.le_refl _) ⟨_, e1⟩
  refine I1.laid (a := s.heap.objs.size + 1) (o := .ins C s.heap.objs.size []) (t' := s.toks) (fun b u q => Heap.get?_push_of_some _ q) (Nat.le_of_eq (Heap.size_push _ _)) ?_
  have ne : s.heap.objs.size ≠ s.heap.objs.size + 1 := Nat.ne_of_lt (Nat.lt_succ_self _)
  refine ⟨by rw [upd_ne ne, upd_same], Nat.zero_le _, ne, e2, fun _ => none, (Heap.Ns1.of_empty e3).at fun o q => Heap.get?_push_of_some _ q, fun _ => True.intro, fun y hy => absurd rfl hy⟩

end

/-! ### readings and rules -/
/-- e.f, an attribute of the instance -/
def tFld (K : PySem.W.Frag) (ta : TE) (f : Str) : TE := fun σ H Q => ta σ H fun x H1 => ∃ a C dx fs v, x = .ref a ∧ H1 a = some (.ins C dx fs) ∧ Cls K C ∧ NoAttr K C f ∧ fs.lookup f = some v ∧ Q v H1
/-- e.f, a constant of the class -/
def tCon (K : PySem.W.Frag) (ta : TE) (f : Str) : TE := fun σ H Q => ta σ H fun x H1 => ∃ a C dx fs v u, x = .ref a ∧ H1 a = some (.ins C dx fs) ∧ Cls K C ∧ Con K C f v u ∧ fs.lookup f = none ∧ Q v H1
/-- e.f = value -/
def sFld (K : PySem.W.Frag) (ta tv : TE) (f : Str) : TS := fun D σ H => tv σ H fun y H1 => ta σ H1 fun x H2 => ∃ a C dx fs, x = .ref a ∧ H2 a = some (.ins C dx fs) ∧ Cls K C ∧ NoAttr K C f ∧ fs.length < 1000 ∧
  D.nx σ (upd H2 a (.ins C dx (putF f y fs)))
/-- an augmented operator on two values -/
def InOp (X : Cx) (op : Operator) (rd : V → V → Hp → VK → Prop) : Prop :=
  ∀ (pins : List (Addr × Obj)) (s : Shared) (σ : St) (H : Hp) (x y : V) (u v : Value) (Q : VK), Inv X pins σ H s → RelV x u → RelV y v → rd x y H Q → wpAny (model X.prog X.w) X.A (inplaceOp op u v) (EP X pins σ Q) X.xe s
/-- e.f op= value -/
def sFldAug (K : PySem.W.Frag) (ta tv : TE) (rd : V → V → Hp → VK → Prop) (f : Str) : TS := fun D σ H => ta σ H fun x H1 => ∃ a C dx fs v, x = .ref a ∧ H1 a = some (.ins C dx fs) ∧ Cls K C ∧ NoAttr K C f ∧ fs.lookup f = some v ∧
  tv σ H1 fun y H2 => rd v y H2 fun z H3 => ∃ dx' fs', H3 a = some (.ins C dx' fs') ∧ fs'.length < 1000 ∧ D.nx σ (upd H3 a (.ins C dx' (putF f z fs')))

section
variable {X : Cx} {o e value : Expr} {f : Str} {pos pos' tpos : Pos} {ta tv : TE}
def rAdd : V → V → Hp → VK → Prop := fun x y H Q => ∃ i j, x = .int i ∧ y = .int j ∧ Q (.int (i + j)) H
def rSub : V → V → Hp → VK → Prop := fun x y H Q => ∃ i j, x = .int i ∧ y = .int j ∧ Q (.int (i - j)) H
end

/-! ### isinstance -/
section
variable {X : Cx} {pins : List (Addr × Obj)} {σ : St} {H : Hp} {s : Shared} {A : Around} {E : Value → Shared → Prop} {Q : Value → Shared → Prop} {c : Value} {b : Bool}
/-- the type of a value, as the fragment's deciders take it; for an instance its class -/
inductive TyOf (K : PySem.W.Frag) (H : Hp) : V → Value → Prop where
  | non : TyOf K H .non (.type "NoneType")
  | bl (x : Bool) : TyOf K H (.bl x) (.type "bool")
  | int (i : Int) : TyOf K H (.int i) (.type "int")
  | str (x : Str) : TyOf K H (.str x) (.type "str")
  | flt (x : UInt64) : TyOf K H (.flt x) (.type "float")
  | lst {a : Addr} {xs : List V} (e : H a = some (.lst xs)) : TyOf K H (.ref a) (.type "list")
  | frz {a : Addr} {o : Obj} {xs : List V} (e : H a = some (.frz o (.lst xs))) : TyOf K H (.ref a) (.type "list")
  | tup {a : Addr} {xs : List V} (e : H a = some (.tup xs)) : TyOf K H (.ref a) (.type "tuple")
  | dK {a : Addr} {kvs : List (Key × V)} (e : H a = some (.dK kvs)) : TyOf K H (.ref a) (.type "dict")
  | dT {a : Addr} {kvs : List (List Key × V)} (e : H a = some (.dT kvs)) : TyOf K H (.ref a) (.type "dict")
  | ins {a C dx : Addr} {fs : List (Str × V)} (e : H a = some (.ins C dx fs)) (cl : Cls K C) (ha : PySem.W.findIn K (.ref C) "__class__" = some (some (.builtin "object.__class__")))
      (hn : PySem.W.specialIn K (.builtin "object.__class__") "__get__" = some (some (.builtin "getset_descriptor.__get__"))) (htk : PySem.W.takesIn K (.builtin "object.__class__") = some true)
      (hm : PySem.W.mroIn K C (.type "object") = some true) : TyOf K H (.ref a) (.ref C)
end
end L2

namespace L2
open PySem PySem.Spec PyProof.Rows

/-! ### room -/
structure Room (k : Nat) (A : Around) : Prop where
  hd : A.handled = none
  dp : A.depth + 3 * k + 5 < recursionLimit
  un : A.units + 16 * k + 200 < cLine
theorem Room.mono {j k : Nat} {A : Around} (r : Room k A) (h : j ≤ k) : Room j A := ⟨r.hd, by have := r.dp; omega, by have := r.un; omega⟩
theorem Room.deeper {k : Nat} {A : Around} (r : Room (k + 1) A) (env : Env) : Room k (A.deeper env) :=
  ⟨r.hd, by have := r.dp; show A.depth + 1 + 3 * k + 5 < _; omega, by have := r.un; show A.units + 3 + 16 * k + 200 < _; omega⟩
theorem Room.in1 {k : Nat} {A : Around} (r : Room (k + 1) A) : Room k A.in1 :=
  ⟨r.hd, by have := r.dp; show A.depth + 3 * k + 5 < _; omega, by have := r.un; show A.units + 1 + 16 * k + 200 < _; omega⟩
theorem make_depth {A : Around} {C : Addr} {us : List Value} {kw : List (Str × Value)} : (A.under (.builtin "type.__call__" ⟨.ref C :: us, kw⟩)).depth = A.depth + 1 := by
  first | rfl | simp [Around.under, Code.weight, Code.isCreation, Code.isGuard, Code.isCaller, Code.frames, Code.isFrame, guardIds]
theorem make_units {A : Around} {C : Addr} {us : List Value} {kw : List (Str × Value)} : (A.under (.builtin "type.__call__" ⟨.ref C :: us, kw⟩)).units = A.units + 1 := by
  first | rfl | simp [Around.under, Code.cUnits, Code.frames, Code.isFrame]
theorem Room.make {k : Nat} {A : Around} (r : Room (k + 1) A) (C : Addr) (us : List Value) (kw : List (Str × Value)) : Room k (A.under (.builtin "type.__call__" ⟨.ref C :: us, kw⟩)) :=
  ⟨r.hd, by have := r.dp; rw [make_depth]; omega, by have := r.un; rw [make_units]; omega⟩
theorem Room.depth {k : Nat} {A : Around} (r : Room k A) : A.depth < recursionLimit := by have := r.dp; omega
theorem Room.units {k : Nat} {A : Around} (r : Room k A) : A.units + 64 < cLine := by have := r.un; omega
/-! ### argument lists and displays -/
def tNil : TA := fun _ H Q => Q [] H
def tCons (ta : TE) (tr : TA) : TA := fun σ H Q => ta σ H fun x H1 => tr σ H1 fun xs H2 => Q (x :: xs) H2
section
variable {X : Cx} {e : Expr} {es : List Expr} {te : TE} {t : TA} {pos : Pos}
theorem pa_nil : PA X [] tNil := fun _ _ _ _ H Q I h => Calls.spliced_nil ⟨[], H, I, .nil, h⟩
theorem pa_cons (ha : PE X e te) (hr : PA X es t) (hs : starEach (e :: es) X.env = (false, eval e X.env) :: starEach es X.env := by rfl) : PA X (e :: es) (tCons te t) := by
  intro pos pins s σ H Q I h
  rw [hs]
  show wpAny _ _ (spliced ((false, eval e X.env) :: backTo pos (starEach es X.env))) _ _ s
  refine Calls.spliced_cons (thn (ha pins s σ H _ I h) fun u s1 ⟨x, H1, I1, r1, q1⟩ => ?_)
  exact thn (hr pos pins s1 σ H1 _ I1 q1) fun us s2 ⟨xs, H2, I2, r2, q2⟩ => ⟨x :: xs, H2, I2, .cons r1 r2, q2⟩

/-- a tuple, a list of written items -/
def tTup (t : TA) : TE := fun σ H Q => t σ H fun xs H1 => xs.length ≤ sizeLine ∧ ∀ p, H1 p = none → Q (.ref p) (upd H1 p (.tup xs))
def tLst (t : TA) : TE := fun σ H Q => t σ H fun xs H1 => xs.length ≤ sizeLine ∧ ∀ p, H1 p = none → Q (.ref p) (upd H1 p (.lst xs))
theorem pe_tup {x1} (h : PA X es t) : PE X (.Tuple es x1 pos) (tTup t) := by
  intro pins s σ H Q I hq
  refine wpAny_Tuple_spliced (thn (h pos pins s σ H _ I hq) fun us s1 ⟨xs, H1, I1, r, z, q⟩ => ⟨by rw [← r.length]; exact z, ?_⟩)
  have hf : H1 s1.heap.objs.size = none := I1.hok.fresh (Nat.le_refl _)
  refine ⟨.ref s1.heap.objs.size, upd H1 s1.heap.objs.size (.tup xs), I1.laid (t' := s1.toks) (fun b u e => Heap.get?_push_of_some _ e) (Nat.le_refl _) ?_, rfl, q _ hf⟩
  exact ⟨z, us, r, ⟨_, Heap.get?_push_size _ rfl, rfl, _, rfl⟩⟩
theorem pe_lst (h : PA X es t) : PE X (.List es pos) (tLst t) := by
  intro pins s σ H Q I hq
  refine wpAny_List_spliced (thn (h pos pins s σ H _ I hq) fun us s1 ⟨xs, H1, I1, r, z, q⟩ => ⟨by rw [← r.length]; exact z, ?_⟩)
  have hf : H1 s1.heap.objs.size = none := I1.hok.fresh (Nat.le_refl _)
  refine ⟨.ref s1.heap.objs.size, upd H1 s1.heap.objs.size (.lst xs), I1.laid (t' := s1.toks) (fun b u e => Heap.get?_push_of_some _ e) (Nat.le_refl _) ?_, rfl, q _ hf⟩
  exact ⟨z, us, 0, r, Heap.get?_push_size _ rfl⟩
end

/-! ### what a def promises -/
/-- a def's promise: the bound arguments in the parameters' order, the heap, the wanted end, the wanted exception -/
abbrev Sp := List V → Hp → VK → XK → Prop
/-- how an exception lies behind a call (file 08 gives it): the callers' frames, abstract heap and state ahead of the call, the wish, the exception, the state -/
abbrev CXT := List Env → Hp → Shared → XK → Value → Shared → Prop

/-- the state at a call -/
structure Env0 (P : Program) (w : World) (K : PySem.W.Frag) (mg : Str → Option Value) (base : Heap) (A : Around) (outer : List Env) (s : Shared) (H : Hp) : Prop where
  frames : A.frames = some outer
  mod : Mod K mg base
  bs : ∀ b o, base.get? b = some o → s.heap.get? b = some o ∧ H b = none
  bsz : base.objs.size ≤ s.heap.objs.size
  funs : s.heap.FunFrames base outer
  frf : ∀ b ∈ frs outer, H b = none
  hok : HOk P w H s.heap
  bare : AllBare s.gens
/-- a call's end -/
def CE (outer : List Env) (P : Program) (w : World) (H : Hp) (s : Shared) (Q : VK) (u : Value) (s' : Shared) : Prop :=
  ∃ v H', s'.os = s.os ∧ AllBare s'.gens ∧ Un (frs outer) [] H H' s.heap s'.heap ∧ HOk P w H' s'.heap ∧ RelV v u ∧ Q v H'
def CR (CX : CXT) (outer : List Env) (P : Program) (w : World) (H : Hp) (s : Shared) (Q : VK) (E : XK) (r : Result) (s' : Shared) : Prop :=
  match r with
  | .ok (.ret u) => CE outer P w H s Q u s'
  | .ok _ => False
  | .error e => CX outer H s E e s'
structure FnOk (P : Program) (w : World) (K : PySem.W.Frag) (mg : Str → Option Value) (base : Heap) (CX : CXT) (k : Nat) (f : Addr) (fd : FuncData) (ps : List Str) (sp : Sp) : Prop where
  len : ∀ vs H Q E, sp vs H Q E → vs.length = ps.length
  run : ∀ (A : Around) (outer : List Env) (s : Shared) (H : Hp) (args : Args) (us : List Value) (vs : List V) (Q : VK) (E : XK), Room k A → Env0 P w K mg base A outer s H → BindsTo s fd args (ps.zip us) → Vals vs us → sp vs H Q E →
    codeAny (model P w) A (.call (.ref f) args) (CR CX outer P w H s Q E) s
theorem FnOk.mono {P : Program} {w : World} {K : PySem.W.Frag} {mg : Str → Option Value} {base : Heap} {CX : CXT} {j k : Nat} {f : Addr} {fd : FuncData} {ps : List Str} {sp : Sp} (F : FnOk P w K mg base CX j f fd ps sp) (h : j ≤ k) :
    FnOk P w K mg base CX k f fd ps sp := ⟨F.len, fun A outer s H args us vs Q E hr => F.run A outer s H args us vs Q E (hr.mono h)⟩
/-- a weaker promise -/
theorem FnOk.imp {P : Program} {w : World} {K : PySem.W.Frag} {mg : Str → Option Value} {base : Heap} {CX : CXT} {k : Nat} {f : Addr} {fd : FuncData} {ps : List Str} {sp sp' : Sp} (F : FnOk P w K mg base CX k f fd ps sp)
    (h : ∀ vs H Q E, sp' vs H Q E → sp vs H Q E) : FnOk P w K mg base CX k f fd ps sp' :=
  ⟨fun vs H Q E q => F.len vs H Q E (h _ _ _ _ q), fun A outer s H args us vs Q E hr he hb hv hs => F.run A outer s H args us vs Q E hr he hb hv (h _ _ _ _ hs)⟩

theorem Env0.make {P : Program} {w : World} {K : PySem.W.Frag} {mg : Str → Option Value} {base : Heap} {A : Around} {outer : List Env} {s : Shared} {H : Hp} (e : Env0 P w K mg base A outer s H) (C : Addr) (us : List Value) (kw : List (Str × Value)) :
    Env0 P w K mg base (A.under (.builtin "type.__call__" ⟨.ref C :: us, kw⟩)) outer s H := ⟨by first | exact e.frames | (simpa [Around.under, Code.envs, Code.isFrame, pushEnvs] using e.frames), e.mod, e.bs, e.bsz, e.funs, e.frf, e.hok, e.bare⟩
theorem Env0.in1 {P : Program} {w : World} {K : PySem.W.Frag} {mg : Str → Option Value} {base : Heap} {A : Around} {outer : List Env} {s : Shared} {H : Hp} (e : Env0 P w K mg base A outer s H) :
    Env0 P w K mg base A.in1 outer s H := ⟨e.frames, e.mod, e.bs, e.bsz, e.funs, e.frf, e.hok, e.bare⟩

section
variable {X : Cx} {pins : List (Addr × Obj)} {σ : St} {H : Hp} {s s' : Shared}
/-- from a body: what a callee wants -/
theorem Inv.env0 (I : Inv X pins σ H s) : Env0 X.prog X.w X.K X.mg X.base X.A X.stack s H :=
  ⟨I.ok.frames, I.ok.mod, I.bs, Nat.le_trans I.ok.bsz I.sz, I.stack, I.stkFree, I.hok, I.bare⟩
/-- behind a call -/
theorem Inv.after {Q : VK} {u : Value} (I : Inv X pins σ H s) (h : CE X.stack X.prog X.w H s Q u s') : EP X pins σ Q u s' := by
  obtain ⟨v, H', os, bare, un, hok, r, q⟩ := h
  obtain ⟨hh, g, d, t, os'⟩ := s'
  obtain rfl : os' = s.os := os
  exact ⟨v, H', I.call (h' := hh) (g' := g) (d' := d) (t' := t) (ch := []) un hok bare (fun b z => absurd z (by simp)), r, q⟩
end

/-! ### calls -/
/-- f(..): the written arguments, then the defaults dvs; E: what is wanted of an exception -/
def tCall (sp : Sp) (dvs : List V) (E : XK) (t : TA) : TE := fun σ H Q => t σ H fun vs H1 => sp (vs ++ dvs) H1 Q E
/-- o.m(..) of an instance of the class at C -/
def tMeth (C : Addr) (m : Str) (sp : Sp) (dvs : List V) (E : XK) (ta : TE) (t : TA) : TE := fun σ H Q => ta σ H fun x H1 => ∃ a dx fs, x = .ref a ∧ H1 a = some (.ins C dx fs) ∧ fs.lookup m = none ∧
  t σ H1 fun vs H2 => sp (x :: (vs ++ dvs)) H2 Q E
/-- C(..): a new instance and its dict, then __init__ -/
def tMake (C : Addr) (sp : Sp) (dvs : List V) (E : XK) (t : TA) : TE := fun σ H Q => t σ H fun vs H1 => ∀ x dx, H1 x = none → H1 dx = none → dx ≠ x →
  sp (.ref x :: (vs ++ dvs)) (upd (upd H1 dx (.own x)) x (.ins C dx [])) (fun v H2 => v = .non ∧ Q (.ref x) H2) E

/-- how the parameters are bound: us the positional arguments, kw the keywords' values by name, ds the defaults that fill up -/
def Binds (K : PySem.W.Frag) (fd : FuncData) (ps : List Str) (ds : List Value) : Prop :=
  ∀ (s : Shared) (us : List Value), K.In s.heap → (us ++ ds).length = ps.length → BindsTo s fd ⟨us, []⟩ (ps.zip (us ++ ds))
/-- every parameter is given -/
theorem Binds.all {K : PySem.W.Frag} {fd : FuncData} {ps : List Str} (h : ∀ us : List Value, us.length = ps.length → bindArgs fd ⟨us, []⟩ = pure (ps.zip us)) : Binds K fd ps [] := fun s us _ hl => by
  rw [List.append_nil] at hl ⊢
  exact .of_eq (h us hl)

/-- an exception of a callee reaches what this body wants of exceptions -/
def Passes (CX : CXT) (X : Cx) (E : XK) : Prop := ∀ (pins : List (Addr × Obj)) (σ : St) (H : Hp) (s : Shared) (e : Value) (s' : Shared), Inv X pins σ H s → CX X.stack H s E e s' → X.xe e s'

section
variable {X : Cx} {CX : CXT} {k : Nat} {f C : Addr} {fd : FuncData} {ps : List Str} {sp : Sp} {dvs : List V} {ds : List Value} {E : XK} {x m : Str} {p pos apos : Pos} {e o : Expr} {es : List Expr} {ta : TE} {t : TA}

/-- the callee runs -/
theorem run_fn {pins : List (Addr × Obj)} {σ : St} {H : Hp} {s : Shared} {Q : VK} {us : List Value} {vs : List V} (F : FnOk X.prog X.w X.K X.mg X.base CX k f fd ps sp) (hr : Room k X.A) (hb : Binds X.K fd ps ds) (hd : Vals dvs ds) (hx : Passes CX X E)
    (I : Inv X pins σ H s) (r : Vals vs us) (h : sp (vs ++ dvs) H Q E) : wpAny (model X.prog X.w) X.A (call (.ref f) us) (EP X pins σ Q) X.xe s := by
  have r2 : Vals (vs ++ dvs) (us ++ ds) := r.append hd
  have hl : (us ++ ds).length = ps.length := by rw [← r2.length]; exact F.len _ _ _ _ h
  refine wpAny_call (codeAny_mono (F.run X.A X.stack s H ⟨us, []⟩ (us ++ ds) (vs ++ dvs) Q E hr I.env0 (hb s us I.kIn hl) r2 h) fun r s' hq => ?_)
  cases r with
  | error e => exact hx pins σ H s e s' I hq
  | ok fl =>
    cases fl with
    | ret u => exact I.after hq
    | next => exact False.elim hq
    | brk => exact False.elim hq
    | cont => exact False.elim hq

theorem pe_call (F : FnOk X.prog X.w X.K X.mg X.base CX k f fd ps sp) (hr : Room k X.A) (hg : Gl X x) (hm : X.mg x = some (.ref f)) (hk : PySem.W.keepIn X.K (.ref f) = true) (hb : Binds X.K fd ps ds) (hd : Vals dvs ds) (hx : Passes CX X E)
    (ha : PA X (e :: es) t) (hdb : (x == ("__debug__" : Str)) = false := by decide) (he : starEach (e :: es) X.env = (false, eval e X.env) :: starEach es X.env := by rfl) (hpl : (backTo pos (starEach es X.env)).any (·.1) = false := by rfl) :
    PE X (.Call (.Name x p) (e :: es) [] pos) (tCall sp dvs E t) := by
  intro pins s σ H Q I h
  refine wpAny_Call_Name_kw (ld_glob I hg hm ?_ hdb)
  refine PySem.W.callWith_K (h₀ := X.base) I.ok.mod.kin hk (thn (ha pos pins s σ H _ I h) fun us s1 ⟨vs, H1, I1, r, q⟩ => ⟨I1.kIn, ?_⟩) he hpl
  exact run_fn F hr hb hd hx I1 r q
/-- what a class must have to be made -/
structure Mk (K : PySem.W.Frag) (C f : Addr) : Prop where
  makes : PySem.W.makesIn K C = true
  init : PySem.W.findIn K (.ref C) "__init__" = some (some (.ref f))
  fn : PySem.W.isFn K (.ref f) = true
  kp : PySem.W.keepIn K (.ref C) = true

end

/-! ### keywords -/
/-- the values of the keywords, from the left -/
def PK (X : Cx) (kws : List Keyword) (t : TA) : Prop :=
  ∀ (pos : Pos) (pins : List (Addr × Obj)) (s : Shared) (σ : St) (H : Hp) (Q : List V → Hp → Prop), Inv X pins σ H s → t σ H Q → wpAny (model X.prog X.w) X.A (evalAll ((backToKw pos (keywordEach kws X.env)).map (·.2))) (AP X pins σ Q) X.xe s
section
variable {X : Cx} {CX : CXT} {k : Nat} {f C : Addr} {fd : FuncData} {ps ks : List Str} {sp : Sp} {E : XK} {x m : Str} {p pos apos kpos : Pos} {e o : Expr} {es : List Expr} {kws : List Keyword} {te ta : TE} {t tk : TA} {nm : Option Str}
/-- how a call with keywords binds: g puts the positional values us and the keywords' values ws (names ks) in the parameters' order, defaults among them -/
structure KBinds (K : PySem.W.Frag) (fd : FuncData) (ps ks : List Str) (g : List Value → List Value → List Value) (gV : List V → List V → List V) : Prop where
  to : ∀ (s : Shared) (us ws : List Value), K.In s.heap → (g us ws).length = ps.length → BindsTo s fd ⟨us, ks.zip ws⟩ (ps.zip (g us ws))
  rel : ∀ {vs : List V} {us : List Value} {zs : List V} {ws : List Value}, Vals vs us → Vals zs ws → Vals (gV vs zs) (g us ws)
def tCallK (sp : Sp) (gV : List V → List V → List V) (E : XK) (t tk : TA) : TE := fun σ H Q => t σ H fun vs H1 => tk σ H1 fun zs H2 => sp (gV vs zs) H2 Q E
variable {g : List Value → List Value → List Value} {gV : List V → List V → List V}
end

/-! ### a def's body keeps its promise -/
/-- names: the parameters first -/
structure FnScope (N P : List Str) (sc : Scope) : Prop where
  kind : sc.kind = .function
  co : sc.isCoroutine = false
  gen : sc.isGenerator = false
  nd : N.Nodup
  pre : N.take P.length = P
  par : ∀ x ∈ P, sc.names.lookup x = some .local ∨ sc.names.lookup x = some .cell
  nofree : ∀ y ∈ sc.names, y.2 ≠ .free

theorem bindL_out {kindOf : Str → Option NameKind} {x : Str} : ∀ {binds : List (Str × Value)} {m : Str → Option Value}, (∀ v, (x, v) ∉ binds) → bindL kindOf binds m x = m x
  | [], _, _ => rfl
  | (n, v) :: r, m, h => by
    unfold bindL
    rw [bindL_out fun w hw => h w (List.mem_cons_of_mem _ hw)]
    split
    · have : x ≠ n := by rintro rfl; exact h v List.mem_cons_self
      simp [this]
    · rfl
theorem bindC_out {kindOf : Str → Option NameKind} {x : Str} : ∀ {binds : List (Str × Value)} {m : Str → Option Value}, (∀ v, (x, v) ∉ binds) → bindC kindOf binds m x = m x
  | [], _, _ => rfl
  | (n, v) :: r, m, h => by
    unfold bindC
    rw [bindC_out fun w hw => h w (List.mem_cons_of_mem _ hw)]
    split
    · rfl
    · have : x ≠ n := by rintro rfl; exact h v List.mem_cons_self
      simp [this]
theorem bindL_get {kindOf : Str → Option NameKind} {x : Str} {v : Value} : ∀ {P : List Str} {vs : List Value} {i : Nat} {m : Str → Option Value}, P.Nodup → P[i]? = some x → vs[i]? = some v → kindOf x = some .local →
    bindL kindOf (P.zip vs) m x = some v
  | [], _, _, _, _, h, _, _ => by simp at h
  | _ :: _, [], _, _, _, _, h, _ => by simp at h
  | p :: P, w :: vs, 0, m, nd, h1, h2, hk => by
    simp at h1 h2; subst h1; subst h2
    show bindL kindOf ((p, w) :: P.zip vs) m p = _
    unfold bindL
    rw [bindL_out fun v hv => (List.nodup_cons.mp nd).1 (List.of_mem_zip hv).1, if_pos hk]
    simp
  | p :: P, w :: vs, i + 1, m, nd, h1, h2, hk => by
    show bindL kindOf ((p, w) :: P.zip vs) m x = _
    unfold bindL
    exact bindL_get (i := i) (List.nodup_cons.mp nd).2 (by simpa using h1) (by simpa using h2) hk
theorem bindC_get {kindOf : Str → Option NameKind} {x : Str} {v : Value} : ∀ {P : List Str} {vs : List Value} {i : Nat} {m : Str → Option Value}, P.Nodup → P[i]? = some x → vs[i]? = some v → kindOf x ≠ some .local →
    bindC kindOf (P.zip vs) m x = some v
  | [], _, _, _, _, h, _, _ => by simp at h
  | _ :: _, [], _, _, _, _, h, _ => by simp at h
  | p :: P, w :: vs, 0, m, nd, h1, h2, hk => by
    simp at h1 h2; subst h1; subst h2
    show bindC kindOf ((p, w) :: P.zip vs) m p = _
    unfold bindC
    rw [bindC_out fun v hv => (List.nodup_cons.mp nd).1 (List.of_mem_zip hv).1, if_neg hk]
    simp
  | p :: P, w :: vs, i + 1, m, nd, h1, h2, hk => by
    show bindC kindOf ((p, w) :: P.zip vs) m x = _
    unfold bindC
    exact bindC_get (i := i) (List.nodup_cons.mp nd).2 (by simpa using h1) (by simpa using h2) hk

/-- the names' values at the entry -/
def start (N : List Str) (vs : List V) : St := vs.map some ++ List.replicate (N.length - vs.length) none

/-- the context of a def's body, at its entry; an exception leaves the frame, then lies as CX says -/
def cxOf (CX : CXT) (P : Program) (w : World) (K : PySem.W.Frag) (mg : Str → Option Value) (base : Heap) (N : List Str) (qual : Str) (scope : Scope) (f : Addr) (cd : Value) (A : Around) (outer : List Env) (s : Shared) (H : Hp) (E : XK) : Cx where
  prog := P
  w := w
  K := K
  mg := mg
  base := base
  A := A.deeper (envOfC qual scope s.heap.objs.size f cd)
  N := N
  s₀ := s
  H₀ := H
  env := envOfC qual scope s.heap.objs.size f cd
  outer := outer
  stack := envOfC qual scope s.heap.objs.size f cd :: outer
  ex := []
  calm := true
  fn := fun _ => true
  pn := []
  xe := fun e s' => wpAny (model P w) (A.deeper (envOfC qual scope s.heap.objs.size f cd)) (leaving (envOfC qual scope s.heap.objs.size f cd) e) (fun _ s'' => CX outer H s E e s'') (fun e' s'' => CX outer H s E e' s'') s'

theorem cell_has {sc : Scope} {n : Nat} {x : Str} (h : sc.names.lookup x = some .cell) : ∃ c, (cellsFrom n sc.names []).lookup x = some c := by
  have q := PySem.W.cellsFrom_some sc.names n [] (.inl h)
  exact Option.isSome_iff_exists.mp q

theorem inv_start {CX : CXT} {P : Program} {w : World} {K : PySem.W.Frag} {mg : Str → Option Value} {base : Heap} {N ps : List Str} {qual : Str} {scope : Scope} {f : Addr} {cd : Value} {A : Around} {outer : List Env} {s s1 : Shared} {H : Hp} {E : XK} {us : List Value} {vs : List V}
    (S : FnScope N ps scope) (hd : A.handled = none) (e0 : Env0 P w K mg base A outer s H) (hl : vs.length = ps.length) (r : Vals vs us)
    (x : InCallC s s.heap.objs.size (bindL (envOfC qual scope s.heap.objs.size f cd).kindOf (ps.zip us) fun _ => none) (cellsFrom (s.heap.objs.size + 1) scope.names []) (bindC (envOfC qual scope s.heap.objs.size f cd).kindOf (ps.zip us) fun _ => none) s1) :
    Inv (cxOf CX P w K mg base N qual scope f cd A outer s H E) [] (start N vs) H s1 := by
  have hpl : ps.length ≤ N.length := by have := congrArg List.length S.pre; rw [List.length_take] at this; omega
  obtain ⟨h1, tk, rfl, hk⟩ := x.done
  have noA : ∀ b : Addr, b ∉ (cxOf CX P w K mg base N qual scope f cd A outer s H E).ex := fun b z => absurd (show b ∈ ([] : List Addr) from z) (by simp)
  refine ⟨⟨e0.mod, S.kind, rfl, rfl, Nat.le_refl _, fun y z c h1 h2 => ?_, fun y hy => ?_, fun y c _ h => ?_, fun _ => hd, Around.frames_deeper e0.frames, .inr ⟨rfl, rfl⟩, fun b z => absurd z (noA b), e0.bs, e0.bsz, fun b _ _ => noA b, fun b z => absurd z (noA b), e0.funs, e0.frf⟩,
    rfl, e0.bare, Un.kept hk, ⟨_, x.toInCall.ns, fun i y v h1 h2 h3 => ?_⟩, fun y c h => ⟨_, x.cell y c h⟩, e0.hok.fresh (Nat.le_refl _), fun y c h => ?_, fun p hp => absurd (show p ∈ ([] : List (Addr × Obj)) from hp) (by simp), e0.hok.kept hk, ?_⟩
  · exact name_of_addr x.apart (PySem.mem_of_lookup h1) (PySem.mem_of_lookup h2)
  · have hy : scope.names.lookup y = some .cell ∨ scope.names.lookup y = some .free := hy
    rcases hy with hy | hy
    · exact cell_has hy
    · exact absurd rfl (S.nofree _ (PySem.mem_of_lookup hy))
  · exact Nat.le_of_lt (x.above y c (PySem.mem_of_lookup h))
  · have hi : i < vs.length := by
      unfold start at h2
      by_cases hi : i < vs.length
      · exact hi
      · rw [List.getElem?_append_right (by simpa using hi)] at h2
        rw [List.getElem?_replicate] at h2
        split at h2 <;> cases h2
    have ha : vs[i]? = some v := by
      unfold start at h2
      rw [List.getElem?_append_left (by simpa using hi), List.getElem?_map] at h2
      cases e : vs[i]? with
      | none => rw [e] at h2; cases h2
      | some a => rw [e] at h2; cases h2; rfl
    obtain ⟨u, hu, rv⟩ := r.get ha
    have hp : ps[i]? = some y := by
      rw [← S.pre, List.getElem?_take_of_lt (by omega)]; exact h1
    have ndP : ps.Nodup := by rw [← S.pre]; exact S.nd.sublist (List.take_sublist _ _)
    refine ⟨u, rv, ?_⟩
    rcases S.par y (List.mem_of_getElem? hp) with k | k
    · exact .inl ⟨k, bindL_get ndP hp hu k⟩
    · obtain ⟨c, e⟩ := cell_has (n := s.heap.objs.size + 1) k
      refine .inr ⟨.inl k, c, e, ?_⟩
      have q := x.cell y c e
      rw [bindC_get ndP hp hu (by show scope.names.lookup y ≠ _; rw [k]; decide)] at q
      exact q
  · exact e0.hok.fresh (Nat.le_of_lt (x.above y c (PySem.mem_of_lookup h)))
  · unfold start
    show _ = N.length
    rw [List.length_append, List.length_map, List.length_replicate]
    omega

/-- THE RULE: a def (or a method) of the text, by its body. The body's reading t is chosen for each entry; it is run at the parameters' values -/
theorem fn_of {CX : CXT} {P : Program} {w : World} {K : PySem.W.Frag} {mg : Str → Option Value} {base : Heap} {k : Nat} {f : Addr} {name qual : Str} {params : Arguments} {body : List Stmt} {scope : Scope} {dV kV doc pm cdv ct oc : Value} {an od : Option Addr}
    {osl : Array (Option Value)} {N ps : List Str} {sp : Sp} (lk : K.lookup f = some ⟨oc, od, .func (PySem.W.fnOf name qual params body scope dV kV doc pm an cdv ct), osl⟩) (hcd : PySem.W.codeIn K cdv qual = true) (S : FnScope N ps scope)
    (len : ∀ vs H Q E, sp vs H Q E → vs.length = ps.length)
    (hbody : ∀ (A : Around) (outer : List Env) (s : Shared) (H : Hp) (vs : List V) (Q : VK) (E : XK), Room k (A.deeper (envOfC qual scope s.heap.objs.size f cdv)) → sp vs H Q E →
      ∃ t, PSs (cxOf CX P w K mg base N qual scope f cdv A outer s H E) body t ∧ t { nx := fun _ H' => Q .non H', rt := Q } (start N vs) H) :
    FnOk P w K mg base CX (k + 1) f (PySem.W.fnOf name qual params body scope dV kV doc pm an cdv ct) ps sp := by
  refine ⟨len, fun A outer s H args us vs Q E hr e0 hb r hsp => ?_⟩
  have hl := len _ _ _ _ hsp
  have KX : K.In s.heap := e0.mod.kin.keeps fun b o e => (e0.bs b o e).1
  have lim : s.heap.NoLimit := e0.mod.nolimit.keeps fun b o e => (e0.bs b o e).1
  have hkind : ∀ y ∈ ps.zip us, scope.names.lookup y.1 = some .local ∨ (scope.names.lookup y.1 = some .cell ∧ ((cellsFrom (s.heap.objs.size + 1) scope.names []).lookup y.1).isSome = true) := fun ⟨n, v⟩ hy => by
    rcases S.par n (List.of_mem_zip hy).1 with q | q
    · exact .inl q
    · exact .inr ⟨q, PySem.W.cellsFrom_some _ _ _ (.inl q)⟩
  refine codeAny_call_function hr.depth (KX _ _ lk) rfl S.co S.gen rfl (PySem.W.codeRec_of KX hcd) (hb _ _ _ _ ?_)
  refine wpAny_newFunctionEnv_cells S.kind hkind fun env he s1 x => ?_
  subst he
  refine ⟨lim.keeps x.toInCall.keep, codeAny_func ?_⟩
  obtain ⟨t, ht, hq⟩ := hbody A outer s H vs Q E (hr.deeper _) hsp
  have I : Inv (cxOf CX P w K mg base N qual scope f cdv A outer s H E) [] (start N vs) H s1 := inv_start S hr.hd e0 hl r x
  refine wpAny_mono (ht [] s1 (start N vs) H _ I hq) (fun fl s' hs => ?_) fun e s' hs => hs
  have fin : ∀ {σ' : St} {H' : Hp} {v : V} {u : Value}, Inv (cxOf CX P w K mg base N qual scope f cdv A outer s H E) [] σ' H' s' → RelV v u → Q v H' → CE outer P w H s Q u s' :=
    fun {σ' H' v u} J rv q => ⟨v, H', J.os, J.bare, J.base, J.hok, rv, q⟩
  cases fl with
  | ret u =>
    obtain ⟨v, σ', H', J, rv, q⟩ := hs
    exact fin J rv q
  | next =>
    obtain ⟨σ', H', J, q⟩ := hs
    exact fin (v := V.non) (u := Value.none) J rfl q
  | brk =>
    obtain ⟨_, _, _, q⟩ := hs
    exact False.elim q
  | cont =>
    obtain ⟨_, _, _, q⟩ := hs
    exact False.elim q
end L2

namespace L2
open PySem PySem.Spec PyProof.Rows
section
variable {X : Cx} {x : Str} {p pos : Pos} {e : Expr} {es : List Expr} {t : TA} {id T : String} {r : List V → Hp → VK → Prop}

def tCB (r : List V → Hp → VK → Prop) (t : TA) : TE := fun σ H Q => t σ H fun vs H1 => r vs H1 Q
/-- f(e, ..), f a built-in function -/
theorem pe_callB (hc : CallR X (.builtin id) r) (hg : Gl X x) (hm : X.mg x = none) (hv : bootBuiltins x = some (.builtin id)) (ha : PA X (e :: es) t) (hn : x ≠ "__name__" := by decide) (hdb : (x == ("__debug__" : Str)) = false := by decide)
    (he : starEach (e :: es) X.env = (false, eval e X.env) :: starEach es X.env := by rfl) (hpl : (backTo pos (starEach es X.env)).any (·.1) = false := by rfl) : PE X (.Call (.Name x p) (e :: es) [] pos) (tCB r t) := by
  intro pins s σ H Q I h
  refine wpAny_Call_Name_kw (ld_blt I hg hm hv ?_ hn hdb)
  exact PyProof.Rows.callWith_builtin1 (thn (ha pos pins s σ H _ I h) fun us s1 ⟨vs, H1, I1, r1, q1⟩ => hc pins s1 σ H1 vs us Q I1 r1 q1) he hpl
/-- T(e, ..), T a built-in type -/
theorem pe_callTy (hc : CallR X (.type T) r) (hg : Gl X x) (hm : X.mg x = none) (hv : bootBuiltins x = some (.type T)) (ha : PA X (e :: es) t) (hn : x ≠ "__name__" := by decide) (hdb : (x == ("__debug__" : Str)) = false := by decide)
    (he : starEach (e :: es) X.env = (false, eval e X.env) :: starEach es X.env := by rfl) (hpl : (backTo pos (starEach es X.env)).any (·.1) = false := by rfl) : PE X (.Call (.Name x p) (e :: es) [] pos) (tCB r t) := by
  intro pins s σ H Q I h
  refine wpAny_Call_Name_kw (ld_blt I hg hm hv ?_ hn hdb)
  exact PyProof.Rows.callWith_type1 (thn (ha pos pins s σ H _ I h) fun us s1 ⟨vs, H1, I1, r1, q1⟩ => hc pins s1 σ H1 vs us Q I1 r1 q1) he hpl
end
end L2

namespace HT
open PySem PyProof.Rows

/-- t < u of tuples of ints -/
def lexLt : List Int → List Int → Bool
  | [], [] => false
  | [], _ :: _ => true
  | _ :: _, [] => false
  | x :: xs, y :: ys => if x = y then lexLt xs ys else decide (x < y)
section
open PySem.SeqAt
open PySem.AutoSeq1 (wpAny_loadPart')
open PySem.MeetsSeq PySem.MeetsSeq2 PySem.MeetsSeq3

end

section
variable {prog : Program} {w : World} {A : Around} {E : Value → Shared → Prop} {s : Shared}

/-! ### t[a:b], not the whole -/
/-- a slice's bound as a place among n (d where it is left out) -/
def sIx (n d : Nat) : Option Int → Nat
  | none => d
  | some v => if v < 0 then (v + (n : Int)).toNat else min v.toNat n
end
end HT

namespace L2
open PySem PySem.Spec PyProof.Rows

/-! ### the parts of a slice -/
abbrev TO := St → Hp → (Option Int → Hp → Prop) → Prop
/-- a slice's part (left out, or an int) -/
def PO (X : Cx) (e : Option Expr) (t : TO) : Prop :=
  ∀ (pins : List (Addr × Obj)) (s : Shared) (σ : St) (H : Hp) (Q : Option Int → Hp → Prop), Inv X pins σ H s → t σ H Q →
    wpAny (model X.prog X.w) X.A (evalPart e X.env) (fun u s' => ∃ o H', Inv X pins σ H' s' ∧ IsPart u o ∧ Q o H') X.xe s
def tNoPart : TO := fun _ H Q => Q none H
def tPart (t : TE) : TO := fun σ H Q => t σ H fun x H1 => ∃ i, x = .int i ∧ Q (some i) H1

section
variable {X : Cx} {e : Expr} {te : TE} {lo hi : Option Expr} {tl th : TO} {pos p2 : Pos}

/-- what a slice of a value is, by values: the slice object stands at sl -/
def SlR (X : Cx) (r : V → Option Int → Option Int → Hp → VK → Prop) : Prop :=
  ∀ (pins : List (Addr × Obj)) (s : Shared) (σ : St) (H : Hp) (x : V) (v vl vu : Value) (lo hi : Option Int) (sl : Addr) (Q : VK), Inv X pins σ H s → RelV x v → s.heap.IsSliceOf sl vl vu .none → IsPart vl lo → IsPart vu hi → r x lo hi H Q →
    ∃ T id, typeLookup (.type T) "__getitem__" = pure (some (.builtin id)) ∧ s.TypeIs v T ∧ wpAny (model X.prog X.w) X.A (getItem v (.ref sl)) (EP X pins σ Q) X.xe s
theorem SlR.or {r r' : V → Option Int → Option Int → Hp → VK → Prop} (h : SlR X r) (h' : SlR X r') : SlR X (fun x lo hi H Q => r x lo hi H Q ∨ r' x lo hi H Q) := by
  intro pins s σ H x v vl vu lo hi sl Q I rx hs pl pu q
  rcases q with q | q
  · exact h pins s σ H x v vl vu lo hi sl Q I rx hs pl pu q
  · exact h' pins s σ H x v vl vu lo hi sl Q I rx hs pl pu q
def tSl (r : V → Option Int → Option Int → Hp → VK → Prop) (te : TE) (tl th : TO) : TE := fun σ H Q => te σ H fun x H1 => tl σ H1 fun l H2 => th σ H2 fun u H3 => r x l u H3 Q
/-- the items of xs[lo:hi] -/
def cutV (xs : List V) (lo hi : Option Int) : List V := (xs.drop (HT.sIx xs.length 0 lo)).take (HT.sIx xs.length xs.length hi - HT.sIx xs.length 0 lo)
/-- t[lo:hi], not the whole of it (the whole would be t itself) -/
def rSlT (K : PySem.W.Frag) : V → Option Int → Option Int → Hp → VK → Prop := fun x lo hi H Q => ∃ a xs, x = .ref a ∧ SqT K H a xs ∧
  ¬ (HT.sIx xs.length 0 lo = 0 ∧ HT.sIx xs.length xs.length hi = xs.length) ∧ ∀ p, H p = none → Q (.ref p) (upd H p (.tup (cutV xs lo hi)))
/-! ### t < u, t + u -/
def rLtT (K : PySem.W.Frag) : R2 := fun x y H Q => ∃ a b ns ms, x = .ref a ∧ y = .ref b ∧ SqT K H a (ns.map V.int) ∧ SqT K H b (ms.map V.int) ∧ Q (.bl (HT.lexLt ns ms)) H
/-- t + u, t not empty: u empty gives t itself -/
def rCatT (K : PySem.W.Frag) : R2 := fun x y H Q => ∃ a b xs ys, x = .ref a ∧ y = .ref b ∧ SqT K H a xs ∧ SqT K H b ys ∧ xs ≠ [] ∧ xs.length + ys.length ≤ sizeLine ∧
  (ys = [] → Q (.ref a) H) ∧ (ys ≠ [] → ∀ p, H p = none → Q (.ref p) (upd H p (.tup (xs ++ ys))))
end
end L2

namespace L2
open PySem PySem.Spec PyProof.Rows

/-! ### places -/
/-- the place that an index of any sign means -/
def ixN (n : Nat) (i : Int) : Option Nat := if 0 ≤ i then (if i < n then some i.toNat else none) else if -(n : Int) ≤ i then some (i + n).toNat else none
def atI {α : Type} (xs : List α) (i : Int) : Option α := (ixN xs.length i).bind fun j => xs[j]?
theorem ixN_seq {n : Nat} {i : Int} {j : Nat} (h : ixN n i = some j) : seqIndex? i n = some j ∧ j < n ∧ -(n : Int) ≤ i ∧ i < n := by
  unfold ixN at h
  by_cases h0 : 0 ≤ i
  · rw [if_pos h0] at h
    by_cases h1 : i < n
    · rw [if_pos h1] at h
      have e : i.toNat = j := Option.some.inj h
      exact ⟨by rw [seqIndex_of h0 h1, e], by omega, by omega, h1⟩
    · rw [if_neg h1] at h; cases h
  · rw [if_neg h0] at h
    by_cases h1 : -(n : Int) ≤ i
    · rw [if_pos h1] at h
      have e : (i + n).toNat = j := Option.some.inj h
      exact ⟨by rw [seqIndex_neg (by omega) h1, e], by omega, h1, by omega⟩
    · rw [if_neg h1] at h; cases h
theorem atI_get {α : Type} {xs : List α} {i : Int} {v : α} (h : atI xs i = some v) : ∃ j, seqIndex? i xs.length = some j ∧ xs[j]? = some v ∧ j < xs.length ∧ -(xs.length : Int) ≤ i ∧ i < xs.length := by
  unfold atI at h
  cases e : ixN xs.length i with
  | none => rw [e] at h; cases h
  | some j =>
    rw [e] at h
    obtain ⟨h1, h2, h3, h4⟩ := ixN_seq e
    exact ⟨j, h1, h, h2, h3, h4⟩
theorem atI_nat {α : Type} {xs : List α} {j : Nat} {v : α} (h : xs[j]? = some v) : atI xs (j : Int) = some v := by
  have hj : j < xs.length := (List.getElem?_eq_some_iff.mp h).1
  have e : ixN xs.length (j : Int) = some j := by
    unfold ixN
    rw [if_pos (by omega), if_pos (by omega)]; simp
  unfold atI; rw [e]; exact h
/-! ### what may be subscripted -/
/-- what stands as an index of a plain subscript -/
def PlainIx (b : Expr) : Prop := ∀ o i, subscripted b false o i = operate [o, i] (getItem o i)
/-- a subscript by values -/
def IxR (X : Cx) (r : R2) : Prop :=
  ∀ (value slice : Expr) (pins : List (Addr × Obj)) (s : Shared) (σ : St) (H : Hp) (x y : V) (v u : Value) (Q : VK), Inv X pins σ H s → RelV x v → RelV y u → r x y H Q →
    subscripted slice false v u = operate [v, u] (getItem v u) → wpAny (model X.prog X.w) X.A (subscriptTail value slice v u) (EP X pins σ Q) X.xe s
/-- a call of a builtin's method by values: the receiver, the arguments -/
def MtR (X : Cx) (id : String) (r : V → List V → Hp → VK → Prop) : Prop :=
  ∀ (pins : List (Addr × Obj)) (s : Shared) (σ : St) (H : Hp) (x : V) (xs : List V) (v : Value) (us : List Value) (Q : VK), Inv X pins σ H s → RelV x v → Vals xs us → r x xs H Q →
    wpAny (model X.prog X.w) X.A (call (.builtin id) (v :: us)) (EP X pins σ Q) X.xe s
section
variable {X : Cx} {a b : Expr} {ta tb : TE} {pos : Pos}
theorem IxR.or {r r' : R2} (h : IxR X r) (h' : IxR X r') : IxR X (fun x y H Q => r x y H Q ∨ r' x y H Q) := by
  intro value slice pins s σ H x y v u Q I rx ry q hs
  rcases q with q | q
  · exact h value slice pins s σ H x y v u Q I rx ry q hs
  · exact h' value slice pins s σ H x y v u Q I rx ry q hs
theorem MtR.or {id : String} {r r' : V → List V → Hp → VK → Prop} (h : MtR X id r) (h' : MtR X id r') : MtR X id (fun x xs H Q => r x xs H Q ∨ r' x xs H Q) := by
  intro pins s σ H x xs v us Q I rx rs q
  rcases q with q | q
  · exact h pins s σ H x xs v us Q I rx rs q
  · exact h' pins s σ H x xs v us Q I rx rs q
/-- a[b] -/
theorem pe_ix {r : R2} (hr : IxR X r) (ha : PE X a ta) (hb : PE X b tb) (hs : PlainIx b) : PE X (.Subscript a b pos) (tOp r ta tb) := by
  intro pins s σ H Q I h
  exact Subscript_ (binT ha hb I h fun v u s2 x y H2 I2 rx ry q => hr a b pins s2 σ H2 x y v u Q I2 rx ry q (hs _ _))

def rIxL (K : PySem.W.Frag) : R2 := fun x y H Q => ∃ p xs i v, x = .ref p ∧ y = .int i ∧ SqL K H p xs ∧ atI xs i = some v ∧ Q v H
def rIxT (K : PySem.W.Frag) : R2 := fun x y H Q => ∃ p xs i v, x = .ref p ∧ y = .int i ∧ SqT K H p xs ∧ atI xs i = some v ∧ Q v H
def rIxS : R2 := fun x y H Q => ∃ z i c, x = .str z ∧ y = .int i ∧ z.length ≤ sizeLine ∧ atI z.cps.toList i = some c ∧ Q (.str ⟨#[c]⟩) H
theorem ix_list : IxR X (rIxL X.K) := by
  intro value slice pins s σ H x y v u Q I rx ry h hs
  obtain ⟨p, xs, i, z, rfl, rfl, hq, he, q⟩ := h
  cases rx
  obtain ⟨t, rfl⟩ := ry
  obtain ⟨its, r, pl, hz⟩ := I.list hq
  obtain ⟨j, h1, h2, h3, h4, h5⟩ := atI_get he
  obtain ⟨w, ew, rw'⟩ := r.get h2
  have hl := r.length
  have hn := line63
  have fin : EP X pins σ Q w s := ⟨z, H, I, rw', q⟩
  by_cases h0 : 0 ≤ i
  · have hj : i.toNat = j := by
      rw [seqIndex_of h0 h5] at h1
      exact Option.some.inj h1
    exact item_listR pl.isList h0 (by omega) (by rw [hj]; simpa using ew) fin hs
  · have hj : (i + (its.toArray.size : Int)).toNat = j := by
      rw [seqIndex_neg (by omega) h4] at h1
      rw [List.size_toArray, ← hl]
      exact Option.some.inj h1
    exact subscriptTail_builtinR (x := w) pl.isList.typeIs slot_list_getitem.lookup
      (wpAny_getItem_list_neg (Q := fun r s' => r = w ∧ EP X pins σ Q r s') pl.isList (by omega) (by rw [List.size_toArray] <;> omega) (by omega) (by rw [hj]; simpa using ew) ⟨rfl, fin⟩) hs
theorem ix_tup : IxR X (rIxT X.K) := by
  intro value slice pins s σ H x y v u Q I rx ry h hs
  obtain ⟨p, xs, i, z, rfl, rfl, hq, he, q⟩ := h
  cases rx
  obtain ⟨t, rfl⟩ := ry
  obtain ⟨its, r, pl, hz⟩ := I.tuple hq
  obtain ⟨j, h1, h2, h3, h4, h5⟩ := atI_get he
  obtain ⟨w, ew, rw'⟩ := r.get h2
  have hl := r.length
  have hn := line63
  have fin : EP X pins σ Q w s := ⟨z, H, I, rw', q⟩
  exact subscriptTail_builtinR (x := w) pl.typeIs slot_tuple_getitem.lookup
    (getItem_tuple (j := j) (Q := fun r s' => r = w ∧ EP X pins σ Q r s') pl (by omega) (by omega) (by rw [List.size_toArray, ← hl]; exact h1) (by simpa using ew) ⟨rfl, fin⟩) hs
/-- list, tuple or str -/
def rIx (K : PySem.W.Frag) : R2 := fun x y H Q => rIxL K x y H Q ∨ rIxT K x y H Q ∨ rIxS x y H Q
/-! ### xs[i] = v, any sign -/
theorem Inv.lst {pins : List (Addr × Obj)} {σ : St} {H : Hp} {s : Shared} {p : Addr} {xs : List V} (I : Inv X pins σ H s) (h : H p = some (.lst xs)) :
    ∃ (its : List Value) (n : Nat), Vals xs its ∧ s.heap.get? p = some { cls := .type "list", data := .seq its.toArray n } ∧ xs.length ≤ sizeLine := by
  obtain ⟨z, its, n, r, e⟩ := I.hok p _ h
  exact ⟨its, n, r, e, z⟩
def rSetL : V → V → V → Hp → (Hp → Prop) → Prop := fun o i v H Q => ∃ p xs k j, o = .ref p ∧ i = .int k ∧ H p = some (.lst xs) ∧ ixN xs.length k = some j ∧ Q (upd H p (.lst (xs.set j v)))
/-! ### slices -/
/-- xs[lo:hi] of a list: a new list -/
def rSlL (K : PySem.W.Frag) : V → Option Int → Option Int → Hp → VK → Prop := fun x lo hi H Q => ∃ a xs, x = .ref a ∧ SqL K H a xs ∧ ∀ p, H p = none → Q (.ref p) (upd H p (.lst (cutV xs lo hi)))
/-! ### in, not in: flat items -/
def flatV : V → Bool
  | .non => true
  | .bl _ => true
  | .int _ => true
  | .str _ => true
  | _ => false
/-- == of flat values -/
def eqV : V → V → Bool
  | .non, .non => true
  | .bl a, .bl b => a == b
  | .bl a, .int b => (if a then 1 else 0) == b
  | .int a, .bl b => a == (if b then 1 else 0)
  | .int a, .int b => a == b
  | .str a, .str b => a == b
  | _, _ => false
/-- the items' answers, read off the values (a value's own answer does not lean on its token) -/
def eqU (x : V) (u : Value) : Bool := match u with
  | .none => eqV .non x
  | .bool b => eqV (.bl b) x
  | .int i _ => eqV (.int i) x
  | .str z _ => eqV (.str z) x
  | _ => false
def inV (x : V) (xs : List V) : Bool := xs.any fun y => eqV y x
/-- x in a list or tuple of flat items -/
def rIn (K : PySem.W.Frag) (neg : Bool) : R2 := fun x y H Q => ∃ p xs, y = .ref p ∧ (SqL K H p xs ∨ SqT K H p xs) ∧ flatV x = true ∧ xs.all flatV = true ∧ Q (.bl (if neg then !inV x xs else inV x xs)) H
/-! ### len, list(x), tuple(x) of any list or tuple that is read -/
theorem call_len_seq : CallR X (.builtin "len") (fun xs H Q => ∃ p ys, xs = [.ref p] ∧ (SqL X.K H p ys ∨ SqT X.K H p ys) ∧ Q (.int ys.length) H) := by
  intro pins s σ H xs us Q I r h
  obtain ⟨p, ys, rfl, hq, q⟩ := h
  obtain ⟨u, rfl, rx⟩ := vals1 r
  cases rx
  have hn := line63
  rcases hq with hq | hq
  · obtain ⟨its, r', pl, hz⟩ := I.list hq
    have hlen := r'.length
    exact Calls.call_len_list pl.isList (by simp only [List.size_toArray] <;> omega) ⟨.int ys.length, H, I.tok _, ⟨s.toks + 1, by rw [List.size_toArray, hlen]⟩, q⟩
  · obtain ⟨its, r', pl, hz⟩ := I.tuple hq
    have hlen := r'.length
    exact len_tuple pl (by simp only [List.size_toArray] <;> omega) ⟨.int ys.length, H, I.tok _, ⟨s.toks + 1, by rw [List.size_toArray, hlen]⟩, q⟩
theorem CallR.or {f : Value} {r r' : List V → Hp → VK → Prop} (h : CallR X f r) (h' : CallR X f r') : CallR X f (fun xs H Q => r xs H Q ∨ r' xs H Q) := by
  intro pins s σ H xs us Q I rs q
  rcases q with q | q
  · exact h pins s σ H xs us Q I rs q
  · exact h' pins s σ H xs us Q I rs q
/-! ### the call of a builtin's method: o.m(..) -/
/-- the value is of that builtin type -/
def tyV (K : PySem.W.Frag) (T : String) (x : V) (H : Hp) : Prop := match x with
  | .str _ => T = "str"
  | .int _ => T = "int"
  | .ref p => (T = "list" ∧ ∃ xs, SqL K H p xs) ∨ (T = "tuple" ∧ ∃ o, K.lookup p = some o ∧ o.cls = .type "tuple" ∧ o.dict = none) ∨
      (T = "dict" ∧ ((∃ kvs, H p = some (.dK kvs)) ∨ ∃ kvs, H p = some (.dT kvs))) ∨ (T = "set" ∧ ∃ S n, H p = some (.set S n))
  | _ => False
theorem tyV_is {pins : List (Addr × Obj)} {σ : St} {H : Hp} {s : Shared} {T : String} {x : V} {v : Value} (I : Inv X pins σ H s) (r : RelV x v) (ty : tyV X.K T x H) :
    s.TypeIs v T ∧ ∀ a, v = .ref a → ∃ ob, s.heap.get? a = some ob ∧ ob.dict = none := by
  cases x with
  | str z =>
    obtain ⟨t, rfl⟩ := r
    cases (show T = "str" from ty)
    exact ⟨typeIs_str s z t, fun _ e => nomatch e⟩
  | int i =>
    obtain ⟨t, rfl⟩ := r
    cases (show T = "int" from ty)
    exact ⟨typeIs_int s i t, fun _ e => nomatch e⟩
  | ref p =>
    cases r
    rcases ty with ⟨rfl, xs, hq⟩ | ⟨rfl, o, hk, hc, hd⟩ | ⟨rfl, hk⟩ | ⟨rfl, S, n, hk⟩
    · obtain ⟨its, _, pl, _⟩ := I.list hq
      refine ⟨pl.isList.typeIs, fun a e => ?_⟩
      cases e
      obtain ⟨o, n, e, c, hd, _⟩ := pl
      exact ⟨o, e, hd⟩
    · refine ⟨⟨o, I.kIn p o hk, hc⟩, fun a e => ?_⟩
      cases e
      exact ⟨o, I.kIn _ o hk, hd⟩
    · have z : ∃ o, s.heap.get? p = some o ∧ o.ExactDict := by
        rcases hk with ⟨kvs, hk⟩ | ⟨kvs, hk⟩
        · obtain ⟨_, _, _, _, o, _, _, e, ex, _⟩ := I.hok p _ hk
          exact ⟨o, e, ex⟩
        · obtain ⟨_, _, _, _, o, _, _, e, ex, _⟩ := I.hok p _ hk
          exact ⟨o, e, ex⟩
      obtain ⟨o, e, ex⟩ := z
      refine ⟨⟨o, e, ex.1⟩, fun a e2 => ?_⟩
      cases e2
      exact ⟨o, e, ex.2.1⟩
    · obtain ⟨o, _, _, _, e, ex, _⟩ := I.hok p _ hk
      refine ⟨⟨o, e, ex.1⟩, fun a e2 => ?_⟩
      cases e2
      exact ⟨o, e, ex.2.1⟩
  | _ => exact False.elim ty
def tBM0 (K : PySem.W.Frag) (T : String) (r : V → List V → Hp → VK → Prop) (to : TE) : TE := fun σ H Q => to σ H fun x H1 => tyV K T x H1 ∧ r x [] H1 Q
def tBM (K : PySem.W.Frag) (T : String) (r : V → List V → Hp → VK → Prop) (to : TE) (t : TA) : TE := fun σ H Q => to σ H fun x H1 => tyV K T x H1 ∧ t σ H1 fun xs H2 => r x xs H2 Q
variable {o e : Expr} {es : List Expr} {to : TE} {t : TA} {name : Str} {apos cpos : Pos} {T id : String} {r : V → List V → Hp → VK → Prop}
theorem pe_bm (pa : PlainAttrs T) (slot : Slot T name id) (hty : typeOf (.builtin id) = pure (.type "method_descriptor")) (hm : MtR X id r) (ho : PE X o to) (ha : PA X (e :: es) t)
    (hbase : attributeBase o name X.env (eval o X.env) = eval o X.env := by rfl)
    (hfew : ((backTo cpos (starEach (e :: es) X.env)).all (fun x => !x.1) && (backToKw cpos (keywordEach [] X.env)).all (fun x => x.1.isSome)
      && decide ((e :: es).length + ([] : List Keyword).length + (if ([] : List Keyword).isEmpty then 0 else 1) < 30)) = true := by rfl)
    (hline : (apos.endLine == cpos.line) = true := by rfl) (hs : starEach (e :: es) X.env = (false, eval e X.env) :: starEach es X.env := by rfl) (hplain : (backTo cpos (starEach es X.env)).any (·.1) = false := by rfl) :
    PE X (.Call (.Attribute o name apos) (e :: es) [] cpos) (tBM X.K T r to t) := by
  intro pins s σ H Q I h
  refine wpAny_Call_method_late hbase hfew hline rfl (thn (ho pins s σ H _ I h) fun v s1 ⟨x, H1, I1, r1, ty, q1⟩ => ?_)
  obtain ⟨h1, h2⟩ := tyV_is I1 r1 ty
  refine ⟨T, id, pa, slot, hty, h1, h2, ?_⟩
  have hA := ha cpos pins s1 σ H1 _ I1 q1
  rw [hs] at hA ⊢
  refine Calls.callWith_builtin (by show (false || (backTo cpos (starEach es X.env)).any (·.1)) = false; rw [hplain] <;> rfl) (Calls.evalArgs_plain ?_)
  exact thn hA fun us s2 ⟨vs, H2, I2, r2, q2⟩ => hm pins s2 σ H2 x vs v us Q I2 r1 r2 q2
/- xs.append(e), list.index on a module's tuple .. are MtR facts of 06m -/
end
end L2

namespace L2
open PySem PySem.Spec PyProof.Rows

def MtM (X : Cx) (id : String) (r : V → List V → Hp → VK → Prop) : Prop :=
  ∀ (pins : List (Addr × Obj)) (s : Shared) (σ : St) (H : Hp) (x : V) (xs : List V) (v : Value) (us : List Value) (Q : VK), Inv X pins σ H s → RelV x v → Vals xs us → r x xs H Q →
    wpAny (model X.prog X.w) X.A (call (.builtin id) (v :: us)) (EP X pins σ Q) X.xe s

/-! ### lists of values -/
theorem Vals.one : ∀ {x : V} {us : List Value}, Vals [x] us → ∃ u, us = [u] ∧ RelV x u
  | _, _, .cons r .nil => ⟨_, rfl, r⟩
theorem Vals.two : ∀ {x y : V} {us : List Value}, Vals [x, y] us → ∃ u v, us = [u, v] ∧ RelV x u ∧ RelV y v
  | _, _, _, .cons r (.cons q .nil) => ⟨_, _, rfl, r, q⟩
theorem Vals.zero : ∀ {us : List Value}, Vals [] us → us = []
  | _, .nil => rfl
theorem Vals.dropLast {xs : List V} {us : List Value} (h : Vals xs us) : Vals xs.dropLast us.dropLast := by
  induction h with
  | nil => exact .nil
  | cons r t ih =>
    cases t with
    | nil => exact .nil
    | cons q t' => exact .cons r ih
theorem Vals.eraseIdx : ∀ {xs : List V} {us : List Value} (i : Nat), Vals xs us → Vals (xs.eraseIdx i) (us.eraseIdx i)
  | _, _, _, .nil => .nil
  | _, _, 0, .cons _ t => t
  | _, _, i + 1, .cons r t => .cons r (Vals.eraseIdx i t)
theorem Vals.reverse {xs : List V} {us : List Value} (h : Vals xs us) : Vals xs.reverse us.reverse := by
  induction h with
  | nil => exact .nil
  | cons r t ih => rw [List.reverse_cons, List.reverse_cons]; exact Vals.append ih (.cons r .nil)
section
variable {X : Cx} {pins : List (Addr × Obj)} {σ : St} {H : Hp} {s : Shared} {l b : Addr} {xs ys zs : List V}

/-! ### the two steps: a tracked list is rewritten, a new list is laid -/
theorem Inv.lset {its its' : List Value} {n : Nat} {f : Array Value → Array Value} {t' : Nat} (I : Inv X pins σ H s) (hH : H l = some (.lst xs))
    (e : s.heap.get? l = some { cls := .type "list", data := .seq its.toArray n }) (hf : f its.toArray = its'.toArray) (hv : Vals ys its') (hz : ys.length ≤ sizeLine) :
    Inv X pins σ (upd H l (.lst ys)) { s with heap := s.heap.update l (Obj.mapSeq f), toks := t' } := by
  have q := PySem.IsL.update e f
  rw [hf] at q
  refine I.write (x := l) (e := l) (by rw [hH]; exact trivial) (.inl rfl) (fun b' u hb hu => (Heap.get?_update_other s.heap (Obj.mapSeq f) (Ne.symm hb)).trans hu) ⟨_, q⟩ ?_
  exact ⟨hz, its', _, hv, q⟩
theorem Inv.lnew {its : List Value} {t' : Nat} (I : Inv X pins σ H s) (hv : Vals ys its) (hz : ys.length ≤ sizeLine) :
    Inv X pins σ (upd H s.heap.objs.size (.lst ys)) { s with heap := s.heap.push { cls := .type "list", data := .seq its.toArray }, toks := t' } :=
  I.laid (fun _ _ q => Heap.get?_push_of_some _ q) (Nat.le_refl _) ⟨hz, its, 0, hv, Heap.get?_push_size _ rfl⟩
theorem Inv.fresh (I : Inv X pins σ H s) : H s.heap.objs.size = none := I.hok.fresh (Nat.le_refl _)
theorem Inv.lstM (I : Inv X pins σ H s) (hH : H l = some (.lst xs)) : xs.length ≤ sizeLine ∧ ∃ (its : List Value) (n : Nat), Vals xs its ∧ xs.length = its.length ∧ s.heap.get? l = some { cls := .type "list", data := .seq its.toArray n } := by
  obtain ⟨z, its, n, r, e⟩ := I.hok l _ hH
  exact ⟨z, its, n, r, r.length, e⟩

theorem notLongL {n : Nat} (h : n ≤ sizeLine) : Builtin.List.listTooLong n = false := by
  unfold Builtin.List.listTooLong
  exact decide_eq_false (by omega)
end

section
variable {X : Cx}

/-! ### methods -/
def rAppend : V → List V → Hp → VK → Prop := fun x vs H Q => ∃ l xs y, x = .ref l ∧ vs = [y] ∧ H l = some (.lst xs) ∧ xs.length < sizeLine ∧ Q .non (upd H l (.lst (xs ++ [y])))
theorem mt_append : MtM X "list.append" rAppend := by
  intro pins s σ H x vs v us Q I rx rv h
  obtain ⟨l, xs, y, rfl, rfl, hH, hz, q⟩ := h
  cases rx
  obtain ⟨u, rfl, ru⟩ := rv.one
  obtain ⟨z, its, n, r, hl, e⟩ := I.lstM hH
  refine call_meets F.slot_list_append ⟨_, e, rfl⟩ F.entry_list_append (F.args_list_append_2 _ _) (PySem.list_append l its.toArray n u (by rw [List.size_toArray]; omega)) ⟨e, ?_⟩
  refine ⟨.non, _, I.lset (its' := its ++ [u]) hH e (by simp) (r.append (.cons ru .nil)) ?_, rfl, q⟩
  rw [List.length_append, List.length_singleton]
  omega

def rExtend : V → List V → Hp → VK → Prop := fun x vs H Q => ∃ l b xs zs, x = .ref l ∧ vs = [.ref b] ∧ H l = some (.lst xs) ∧ H b = some (.lst zs) ∧ xs.length + zs.length ≤ sizeLine ∧ Q .non (upd H l (.lst (xs ++ zs)))
theorem mt_extend : MtM X "list.extend" rExtend := by
  intro pins s σ H x vs v us Q I rx rv h
  obtain ⟨l, b, xs, zs, rfl, rfl, hH, hB, hz, q⟩ := h
  cases rx
  obtain ⟨u, rfl, ru⟩ := rv.one
  cases ru
  obtain ⟨z, its, n, r, hl, e⟩ := I.lstM hH
  obtain ⟨z2, its2, n2, r2, hl2, e2⟩ := I.lstM hB
  have hsz : its.toArray.size + its2.toArray.size ≤ sizeLine := by rw [List.size_toArray, List.size_toArray]; omega
  have hlong : ¬ (!its.toArray.isEmpty && Builtin.List.listTooLong (its.toArray.size + its2.toArray.size)) = true := by
    rw [notLongL hsz, Bool.and_false]
    exact Bool.false_ne_true
  refine call_meets F.slot_list_extend ⟨_, e, rfl⟩ F.entry_list_extend (F.args_list_extend_2 _ _)
    (AutoSeq1.list_extend_list_list_0 l its.toArray n b its2.toArray n2 hlong (by rw [List.size_toArray]; omega) (by omega)) ⟨e, e2, ?_⟩
  refine ⟨.non, _, I.lset (its' := its ++ its2) hH e (by simp) (r.append r2) ?_, rfl, q⟩
  rw [List.length_append]
  omega

def rPop : V → List V → Hp → VK → Prop := fun x vs H Q => ∃ l xs y, x = .ref l ∧ vs = [] ∧ H l = some (.lst xs) ∧ xs[xs.length - 1]? = some y ∧ Q y (upd H l (.lst xs.dropLast))
def rPopAt : V → List V → Hp → VK → Prop := fun x vs H Q => ∃ l xs i k y, x = .ref l ∧ vs = [.int i] ∧ H l = some (.lst xs) ∧ -(2 ^ 63) ≤ i ∧ i < 2 ^ 63 ∧ seqIndex? i xs.length = some k ∧ xs[k]? = some y ∧ Q y (upd H l (.lst (xs.eraseIdx k)))
def rReverse : V → List V → Hp → VK → Prop := fun x vs H Q => ∃ l xs, x = .ref l ∧ vs = [] ∧ H l = some (.lst xs) ∧ Q .non (upd H l (.lst xs.reverse))
def rClear : V → List V → Hp → VK → Prop := fun x vs H Q => ∃ l xs, x = .ref l ∧ vs = [] ∧ H l = some (.lst xs) ∧ Q .non (upd H l (.lst []))
/-! ### list + list, list += list, list * int -/
def rCat : R2 := fun x y H Q => ∃ l b xs zs, x = .ref l ∧ y = .ref b ∧ H l = some (.lst xs) ∧ H b = some (.lst zs) ∧ xs.length + zs.length ≤ sizeLine ∧ ∀ p, H p = none → Q (.ref p) (upd H p (.lst (xs ++ zs)))
theorem op_cat : OpR X (binaryOp .Add) rCat := by
  intro pins s σ H x y v u Q I rx ry h
  obtain ⟨l, b, xs, zs, rfl, rfl, hH, hB, hz, q⟩ := h
  cases rx
  cases ry
  obtain ⟨z, its, n, r, hl, e⟩ := I.lstM hH
  obtain ⟨z2, its2, n2, r2, hl2, e2⟩ := I.lstM hB
  refine PySem.P.add_list e e2 ?_ (by rw [List.size_toArray, List.size_toArray]; omega)
  have ea : its.toArray ++ its2.toArray = (its ++ its2).toArray := by simp
  rw [ea]
  exact ⟨.ref _, _, I.lnew (t' := s.toks) (r.append r2) (by rw [List.length_append]; omega), rfl, q _ I.fresh⟩
/-- a list times an int (a negative one is nothing) -/
def rRep : R2 := fun x y H Q => ∃ l k xs, x = .ref l ∧ y = .int k ∧ H l = some (.lst xs) ∧ -(2 ^ 63) ≤ k ∧ k < 2 ^ 63 ∧ xs.length * k.toNat ≤ sizeLine ∧
  ∀ p, H p = none → Q (.ref p) (upd H p (.lst (List.replicate k.toNat xs).flatten))
/-! ### del xs[i] -/
end

/-! ### xs[a:b] = ys -/
section
variable {prog : Program} {w : World} {A : Around} {E : Value → Shared → Prop} {s : Shared}
end

section
variable {X : Cx}
end
end L2

namespace Att
open PySem PySem.W PySem.Calls PyProof.Rows

/-! ### the script -/
theorem ints_of_wellAll {P : Params} {h : Heap} : ∀ (ns : List Int) (vs : List Value), WellAll P h vs (ns.map WData.int) → IntsAre vs ns := by
  intro ns
  induction ns with
  | nil =>
    intro vs w
    rw [List.map_nil] at w
    cases w
    exact .nil
  | cons n ns ih =>
    intro vs w
    rw [List.map_cons] at w
    cases w with
    | cons a b =>
      cases a
      exact .cons _ _ (ih _ b)

theorem script_of {l : OpenLaw} {n : Nat} (hn : l.most = some n) {P : Params} {h : Heap} {args : List WData} {vals : List Value}
    (hpre : l.row.toRowW.claim.pre args = true) (hwl : WellAll P h vals args) :
    ∃ a vs ns, vals = [Value.ref a] ∧ args = [WData.list (ns.map WData.int)] ∧ h.get? a = some { cls := .type "list", data := .seq vs.toArray } ∧ IntsAre vs ns ∧ ns.length ≤ n := by
  have hsh : WShape.hasAll [] args [.list .int] = true := (pre_splitW hpre).1
  have hc : l.pre.holds [] { args := args } = true := (pre_splitW hpre).2
  obtain ⟨d, r, rfl, h1, h2⟩ := hasAllW_cons hsh
  obtain rfl := hasAllW_nil h2
  obtain ⟨xs, rfl, h3⟩ := hasW_list h1
  obtain ⟨ns, rfl⟩ := items_int h3
  have hlen : ns.length ≤ n := by
    unfold OpenLaw.pre at hc
    have h4 : (WTm.not (.lt (.lit (.int (n : Int))) (.len (.arg 0)))).holds [] { args := [.list (ns.map .int)] } = true := by
      have h4 := (holds_andW hc).1
      rw [hn] at h4
      exact h4
    have h5 := condW_of h4 (w_not (w_lt w_lit (w_len_list (w_arg rfl))))
    rw [List.length_map] at h5
    refine Nat.le_of_not_lt fun q => ?_
    have q' : (n : Int) < ((ns.length : Nat) : Int) := by omega
    first
      | (rw [decide_eq_true q'] at h5; exact absurd h5 (by decide))
      | (simp at h5; omega)
  cases hwl with
  | cons w1 w2 =>
    cases w2
    cases w1 with
    | list ho hall => exact ⟨_, _, ns, rfl, rfl, ho, ints_of_wellAll ns _ hall, hlen⟩

theorem post_true (l : OpenLaw) (args : List WData) : l.row.toRowW.claim.post args (.bool true) args = true :=
  postW_of (r := l.row.toRowW) (X := (true == true))
    (show WShape.has [] (.bool true) .bool = true by first | rfl | decide | simp [WShape.has, WShape.arms, WShape.armsAll])
    (show (WTm.eq .res (.lit (.bool true))).value [] { args := args, res := some (.bool true), after := args } = some (.bool (true == true)) from w_eq_bool (w_res rfl) w_lit) rfl

/-! ### the attachment: holds_open's last premise (the goal 'hc' behind k_head) from a wpAny of the law's body -/
/-- the same from a codeAny of the CALL (for a layer whose function contracts speak of calls) -/
theorem attach_call {l : OpenLaw} {n : Nat} {q : Program} {loose : List Str} {XP : (Str → Option Value) → Heap → Prop} {YP : World → Heap → Prop} {d : DefRec}
    (hn : l.most = some n) (hdf : d.params.defaults = [])
    (call : ∀ (w : World) (s₀ s₁ : Shared) (mg mb : Str → Option Value) (fa : Addr) (o : Obj) (pm cd doc : Value) (a : Addr) (vs : List Value) (ns : List Int),
      Ground q loose [] XP w s₀ mg mb s₁.heap → YP w s₁.heap →
      s₁.heap.get? fa = some o → o.data = .func (docDef d.name d.params d.body d.scope pm cd doc) → s₁.heap.CodeRec cd d.name → mg d.name = some (.ref fa) →
      s₁.heap.get? a = some { cls := .type "list", data := .seq vs.toArray } → IntsAre vs ns → ns.length ≤ n → s₁.gens = #[] →
      codeAny (model l.prog w) callerA (.call (.ref fa) ⟨[.ref a], []⟩) (fun r s' => r = .ok (.ret (.bool true)) ∧ OldK s₁.heap s'.heap ∧ s'.os = s₁.os ∧ AllBare s'.gens) s₁) :
    WalkO q loose XP YP l.row.toRowW d [] (fun f vs => PySem.call f vs) := by
  intro w s₀ s₁ mg mb G Y fa o pm cd doc dV kV ho hd hcd hD hmg hg args vals as hpre hlay hrd hwl hlo
  obtain rfl : dV = .none := Dflts.none hD hdf
  obtain rfl : kV = .none := Dflts.noKw hD
  obtain ⟨a, vs, ns, rfl, rfl, hobj, hints, hlen⟩ := script_of hn hpre hwl
  refine enter_call (codeAny_mono (call w s₀ s₁ mg mb fa o pm cd doc a vs ns G Y ho (fd_plain hd) hcd hmg hobj hints hlen hg) fun r s' hq => ?_)
  obtain ⟨rfl, h2, h3, h4⟩ := hq
  exact ⟨.inl ⟨.bool true, .bool true, [], rfl, fun _ => rfl, .bool true, post_true l _, fun _ => ⟨List.Pairwise.nil, fun _ hm => (nomatch hm)⟩⟩, h2, h3, h4⟩

/-! ### rules over ANY heap (no ledger) from facts about the written part K: the library's own take a ledger (News) for what they write -/
section
variable {prog : Program} {w : World} {A : Around} {E : Value → Shared → Prop} {s : Shared} {K : Frag}

/-! the whole heap as the ledger: makes every rule that writes through a ledger a rule over any heap -/
def noObjs (h : Heap) : Heap := { h with objs := #[] }
def ledger (h : Heap) (L d : Addr) : List (Addr × Obj) := (List.range h.objs.size).filterMap fun a => if a = L ∨ a = d then none else (h.get? a).map fun o => (a, o)
end
end Att

namespace L2
open PySem PySem.Spec PyProof.Rows

theorem vals_ints : ∀ {vs : List Value} {ns : List Int}, IntsAre vs ns → Vals (ns.map V.int) vs
  | _, _, .nil => .nil
  | _, _, .cons n t h => .cons ⟨t, rfl⟩ (vals_ints h)

/-- nothing is tracked but the script, known to the object (or it is an object of the module) -/
def Only (H : Hp) : Prop := ∀ b, H b = none ∨ ∃ o xs, H b = some (.frz o (.lst xs))

/-- THE HEAD: the law's promise, at the heap behind the top. F, the promise of the law's def, may use that base is part of the heap (so K.In base, base.Ns mainGlobals mg stand in Mod) -/
theorem law_call {P : Program} {w : World} {K : PySem.W.Frag} {mg mb : Str → Option Value} {CX : CXT} {k : Nat} {fa a : Addr} {fd : FuncData} {x : Str} {sp : Sp} {s₁ : Shared} {vs : List Value} {ns : List Int}
    (KX : K.In s₁.heap) (hns : s₁.heap.Ns mainGlobals mg) (hb : s₁.heap.Ns builtinsNs mb) (hbb : ∀ x : Str, x ≠ "__name__" → mb x = bootBuiltins x) (hlim : s₁.heap.NoLimit) (hdig : s₁.heap.NoDigits) (hg : s₁.gens = #[])
    (ha : s₁.heap.get? a = some { cls := .type "list", data := .seq vs.toArray }) (hi : IntsAre vs ns) (hl : ns.length ≤ sizeLine) (hr : Room k callerA)
    (F : ∀ base : Heap, K.In base → base.Ns mainGlobals mg → FnOk P w K mg base CX k fa fd [x] sp) (hbind : ∀ (s : Shared) (u : Value), BindsTo s fd ⟨[u], []⟩ [(x, u)])
    (hsp : ∀ H : Hp, Only H → SqL K H a (ns.map V.int) → sp [.ref a] H (fun v _ => v = .bl true) fun _ _ _ => False)
    (hCX : ∀ H e s', CX [] H s₁ (fun _ _ _ => False) e s' → False) :
    codeAny (model P w) callerA (.call (.ref fa) ⟨[.ref a], []⟩) (fun r s' => r = .ok (.ret (.bool true)) ∧ OldK s₁.heap s'.heap ∧ s'.os = s₁.os ∧ AllBare s'.gens) s₁ := by
  have rv := vals_ints hi
  have lenV := hi.length
  -- from an abstract heap in which nothing but the script may be tracked
  have core : ∀ H : Hp, Only H → SqL K H a (ns.map V.int) → HOk P w H s₁.heap → (∀ b, H b ≠ none → b = a) → (H a ≠ none → K.lookup a = none) →
      codeAny (model P w) callerA (.call (.ref fa) ⟨[.ref a], []⟩) (fun r s' => r = .ok (.ret (.bool true)) ∧ OldK s₁.heap s'.heap ∧ s'.os = s₁.os ∧ AllBare s'.gens) s₁ := by
    intro H hO hS hok hA hK
    have base_of : ∀ {b : Addr} {o : Obj}, s₁.heap.get? b = some o → H b = none → (hidT s₁.heap H).get? b = some o := fun e n => hidT_get e n
    have noA : ∀ {b : Addr} {o : Obj} {es : Array DictEntry} {ep : Nat}, s₁.heap.get? b = some o → o.data = .dict es ep → H b = none := fun {b o es ep} e d => by
      cases q : H b with
      | none => rfl
      | some u =>
        have e' : b = a := hA b (by rw [q]; simp)
        subst e'
        rw [ha] at e; cases e
        have d' : Data.seq vs.toArray _ = Data.dict es ep := d
        cases d'
    have nsK : ∀ {b : Addr} {m : Str → Option Value}, s₁.heap.Ns b m → (hidT s₁.heap H).Ns b m := fun {b m} ⟨o, es, ep, e, d, r⟩ => ⟨o, es, ep, base_of e (noA e d), d, r⟩
    have hKb : K.In (hidT s₁.heap H) := fun b o e => base_of (KX b o e) (by
      cases q : H b with
      | none => rfl
      | some u =>
        have e' : b = a := hA b (by rw [q]; simp)
        subst e'
        rw [hK (by rw [q]; simp)] at e; cases e)
    have hM : Mod K mg (hidT s₁.heap H) := ⟨hKb, nsK hns, ⟨mb, nsK hb, hbb⟩, (let ⟨mc, h1, h2⟩ := hlim; ⟨mc, nsK h1, h2⟩), (let ⟨mc, h1, h2⟩ := hdig; ⟨mc, nsK h1, h2⟩)⟩
    have e0 : Env0 P w K mg (hidT s₁.heap H) callerA [] s₁ H := ⟨rfl, hM, fun b o e => of_hidT e, Nat.le_of_eq (hidT_size _ _), trivial, fun b hb => absurd (show b ∈ ([] : List Addr) from hb) (by simp), hok, .of_eq hg⟩
    refine codeAny_mono ((F _ hKb (nsK hns)).run callerA [] s₁ H ⟨[.ref a], []⟩ [.ref a] [.ref a] _ _ hr e0 (hbind s₁ (.ref a)) (.cons rfl .nil) (hsp H hO hS)) fun r s' h => ?_
    cases r with
    | error e => exact (hCX H e s' h).elim
    | ok fl =>
      cases fl with
      | next => exact False.elim h
      | brk => exact False.elim h
      | cont => exact False.elim h
      | ret u =>
        obtain ⟨v, H', os, bare, un, hok', r', q⟩ := h
        have q' : v = .bl true := q
        subst q'
        obtain rfl : u = Value.bool true := r'
        refine ⟨rfl, OldK.of_keep fun b o e => ?_, os, bare⟩
        cases q : H b with
        | none => exact un.keep b o e q (by intro z; exact absurd (show b ∈ ([] : List Addr) from z) (by simp)) (by simp)
        | some u =>
          rcases hO b with z | ⟨ob, xs, z⟩
          · rw [q] at z; cases z
          · have z2 := un.frzs b ob _ z
            obtain ⟨e1, _⟩ := hok b _ z
            obtain ⟨e2, _⟩ := hok' b _ z2
            rw [e] at e1; cases e1
            exact e2
  cases hk : K.lookup a with
  | some o =>
    -- the script is one of the module's own objects
    have e := KX a o hk
    rw [ha] at e
    cases e
    refine core (fun _ => none) (fun _ => .inl rfl) (.inr ⟨_, vs.toArray, _, hk, rfl, rfl, rfl, by rw [List.size_toArray, lenV]; exact hl, by simpa using rv⟩) (fun b u z => by have z' : (none : Option HO) = some u := z; cases z') (fun b z => absurd rfl z) fun z => absurd rfl z
  | none =>
    refine core (fun b => if b = a then some (.frz { cls := .type "list", data := .seq vs.toArray } (.lst (ns.map V.int))) else none) (fun b => ?_) (.inl (.inr ⟨{ cls := .type "list", data := .seq vs.toArray }, if_pos rfl⟩)) (fun b u z => ?_) (fun b z => ?_) fun _ => hk
    · by_cases hb : b = a
      · exact .inr ⟨_, _, if_pos hb⟩
      · exact .inl (if_neg hb)
    · by_cases hb : b = a
      · have z' := (if_pos hb).symm.trans z
        cases z'
        subst hb
        exact ⟨ha, by rw [List.length_map]; exact hl, vs, _, rv, ha⟩
      · have z' := (if_neg hb).symm.trans z
        cases z'
    · by_cases hb : b = a
      · exact hb
      · exact absurd (if_neg hb) z
end L2

namespace L2
open PySem PySem.Spec PyProof.Rows

abbrev KOf {K : PySem.W.Frag} {h : Heap} (_ : K.In h) : PySem.W.Frag := K

/-- the goal that k_head leaves (case hc), from the law's promise. F gives the function object fd (K's own) once, then the promise over every base -/
theorem walk_of {l : PySem.W.OpenLaw} {n k : Nat} {q : Program} {loose : List Str} {XP : (Str → Option Value) → Heap → Prop} {YP : World → Heap → Prop} {d : DefRec} {K : Params → PySem.W.Frag} {CX : World → CXT} {sp : World → Sp} {x : Str}
    (hn : l.most = some n) (hn2 : n ≤ sizeLine) (hdf : d.params.defaults = []) (hr : Room k callerA)
    (hY : ∀ (w : World) (h : Heap), YP w h → (K w.params).In h)
    (F : ∀ (w : World) (mg : Str → Option Value) (fa : Addr) (h : Heap), (K w.params).In h → h.Ns mainGlobals mg → mg d.name = some (.ref fa) →
      ∃ fd : FuncData, (∀ (s : Shared) (u : Value), BindsTo s fd ⟨[u], []⟩ [(x, u)]) ∧
        ∀ base : Heap, (K w.params).In base → base.Ns mainGlobals mg → FnOk l.prog w (K w.params) mg base (CX w) k fa fd [x] (sp w))
    (hsp : ∀ (w : World) (H : Hp) (a : Addr) (ns : List Int), ns.length ≤ n → Only H → SqL (K w.params) H a (ns.map V.int) → sp w [.ref a] H (fun v _ => v = .bl true) fun _ _ _ => False)
    (hCX : ∀ (w : World) (H : Hp) (s : Shared) (e : Value) (s' : Shared), CX w [] H s (fun _ _ _ => False) e s' → False) :
    PySem.W.WalkO q loose XP YP l.row.toRowW d [] (fun f vs => PySem.call f vs) := by
  refine Att.attach_call hn hdf fun w s₀ s₁ mg mb fa o pm cd doc a vs ns G Y ho hd hcd hmg hobj hints hlen hg => ?_
  have KX := hY w _ Y
  obtain ⟨fd, hb, hF⟩ := F w mg fa _ KX G.T.g hmg
  exact law_call KX G.T.g G.T.b G.T.builtins G.T.nolimit G.T.nodigits hg hobj hints (Nat.le_trans hlen hn2) hr hF hb (fun H hO hS => hsp w H a ns hlen hO hS) fun H e s' => hCX w H s₁ e s'
end L2

/- THE LAST THEOREM (shape; LID, My.* are yours):
   My.Adr: a structure of the addresses that your layer names (classes, functions); My.Txt K t: a structure (Prop) of the equations over K;
   My.txt_mk : {K} {implicit addresses ..} (e1 : nsIn K mainGlobals "law" = some (some (.ref f))) (e2 : K.lookup f = some ⟨oc, od, .func (fnOf "law" "law" params body scope dV kV doc pm an cdv ct), sl⟩) (e3 : codeIn K cdv "law" = true) .. : ∃ t, My.Txt K t

set_option maxRecDepth 100000 in
set_option maxHeartbeats 0 in
theorem PySem.Challenge.cw_LID_holds : PySem.Challenge.rw_LID.Holds := by
  w_on; o_law; k_head; (case hw => w_witness2)
  k_fill
  refine L2.walk_of (l := PySem.Challenge.rw_LID) (n := 63) (k := 40) (x := "script") (CX := fun w => ..) (sp := fun _ => My.sp_law) rfl (by decide) rfl ⟨rfl, by decide, by decide⟩ (fun w h Y => PySem.W.kIn_of Y) ?F ?S ?C
  case F =>
    intro w mg fa h KX G hmg
    have T : ∃ t, My.Txt (L2.KOf KX) t := by
      dsimp only [L2.KOf]                          -- K must stand as «<heap const> w.params» for k_is
      refine' My.txt_mk ?e1 ?e2 ?e3 ..
      (case e1 => PySem.W.k_is)                    -- in the order: a name -> its address -> its object -> its parts
      (case e2 => PySem.W.k_is)
      ..
    obtain ⟨t, T⟩ := T
    have e0 := hmg.symm.trans (PySem.W.mg_of KX G T.law)
    cases e0                                       -- fa is the law's own address
    exact ⟨_, fun s u => .of_eq rfl, fun base kb nb => My.law_fn T kb nb⟩     -- if «.of_eq rfl» comes too early: refine' ⟨_, ?b, fun base kb nb => My.law_fn T kb nb⟩; exact fun s u => .of_eq rfl
  case S => exact fun w H a ns hl hO hS => ..
  case C => exact ..
(the tactic k_is has no namespace: write k_is) -/

/-! SHORT WORDS over the layer: a def of the text, its body, what a loop and a test want. -/
namespace L2
open PySem PySem.Spec PyProof.Rows

/-! ### the text by places -/
/-- the j-th statement of a class's body -/
def inClass (s : Stmt) (j : Nat) : Stmt := match s with
  | .ClassDef _ _ _ body _ _ _ _ _ _ _ => body.getD j (.Pass ⟨0, 0, 0, 0⟩)
  | _ => .Pass ⟨0, 0, 0, 0⟩
def defArgs (s : Stmt) : Arguments := match s with
  | .FunctionDef _ a _ _ _ _ _ _ _ _ => a
  | _ => { posonlyargs := [], args := [], vararg := none, kwonlyargs := [], kw_defaults := [], kwarg := none, defaults := [] }
def defBody (s : Stmt) : List Stmt := match s with
  | .FunctionDef _ _ b _ _ _ _ _ _ _ => b
  | _ => []
def defScope (s : Stmt) : Scope := match s with
  | .FunctionDef _ _ _ _ _ _ sc _ _ _ => sc
  | _ => { kind := .function, names := [], isGenerator := false, isCoroutine := false }

/-! ### no exception leaves a def -/
abbrev CX0 : CXT := fun _ _ _ _ _ _ => False
abbrev E0 : XK := fun _ _ _ => False
theorem pass0 {X : Cx} : Passes CX0 X E0 := fun _ _ _ _ _ _ _ h => h.elim

/-! ### a def (or method) of the text as it stands behind the top -/
structure Fun (K : PySem.W.Frag) (x qual : Str) (st : Stmt) (f : Addr) (fd : FuncData) : Prop where
  ex : ∃ (oc : Value) (od : Option Addr) (kV doc pm : Value) (an : Option Addr) (cdv ct : Value) (osl : Array (Option Value)),
    fd = PySem.W.fnOf x qual (defArgs st) (defBody st) (defScope st) .none kV doc pm an cdv ct ∧ K.lookup f = some ⟨oc, od, .func fd, osl⟩ ∧ PySem.W.codeIn K cdv qual = true
  kp : PySem.W.keepIn K (.ref f) = true
section
variable {P : Program} {w : World} {K : PySem.W.Frag} {mg : Str → Option Value} {base : Heap}
/-- THE RULE for a def: its body as a term of rules, and the reading of that term -/
theorem Fun.ok {x qual : Str} {st : Stmt} {f : Addr} {fd : FuncData} {N ps : List Str} {k : Nat} {sp : Sp} (F : Fun K x qual st f fd) (S : FnScope N ps (defScope st)) (len : ∀ vs H Q E, sp vs H Q E → vs.length = ps.length)
    (hbody : ∀ (cdv : Value) (A : Around) (outer : List Env) (s : Shared) (H : Hp) (vs : List V) (Q : VK) (E : XK), Room k (A.deeper (envOfC qual (defScope st) s.heap.objs.size f cdv)) → sp vs H Q E →
      ∃ t, PSs (cxOf CX0 P w K mg base N qual (defScope st) f cdv A outer s H E).nox (defBody st) t ∧ t { nx := fun _ H' => Q .non H', rt := Q } (start N vs) H) : FnOk P w K mg base CX0 (k + 1) f fd ps sp := by
  obtain ⟨oc, od, kV, doc, pm, an, cdv, ct, osl, rfl, lk, hcd⟩ := F.ex
  refine fn_of lk hcd S len fun A outer s H vs Q E hr hsp => ?_
  obtain ⟨t, h, q⟩ := hbody cdv A outer s H vs Q E hr hsp
  exact ⟨t, h.nox, q⟩
/-- how its arguments bind (no defaults): h is «fun _ _ _ _ _ _ us hl => match us, hl with | [_, _], _ => rfl», one _ a parameter -/
theorem Fun.binds {x qual : Str} {st : Stmt} {f : Addr} {fd : FuncData} {ps : List Str} (F : Fun K x qual st f fd)
    (h : ∀ (kV doc pm : Value) (an : Option Addr) (cdv ct : Value) (us : List Value), us.length = ps.length → bindArgs (PySem.W.fnOf x qual (defArgs st) (defBody st) (defScope st) .none kV doc pm an cdv ct) ⟨us, []⟩ = pure (ps.zip us)) : Binds K fd ps [] := by
  obtain ⟨oc, od, kV, doc, pm, an, cdv, ct, osl, rfl, lk, hcd⟩ := F.ex
  exact .all (h kV doc pm an cdv ct)
theorem fun_mk {x qual : Str} {st : Stmt} {f : Addr} {oc : Value} {od an : Option Addr} {osl : Array (Option Value)} {kV doc pm cdv ct : Value} (l : K.lookup f = some ⟨oc, od, .func (PySem.W.fnOf x qual (defArgs st) (defBody st) (defScope st) .none kV doc pm an cdv ct), osl⟩)
    (c : PySem.W.codeIn K cdv qual = true) (k : PySem.W.keepIn K (.ref f) = true) : Fun K x qual st f (PySem.W.fnOf x qual (defArgs st) (defBody st) (defScope st) .none kV doc pm an cdv ct) := ⟨⟨oc, od, kV, doc, pm, an, cdv, ct, osl, rfl, l, c⟩, k⟩
end
theorem hu_of {A : Around} {k : Nat} (hr : Room k A) : A.units + 1 < cLine := Nat.lt_of_le_of_lt (Nat.add_le_add_left (by decide : 1 ≤ 64) _) hr.units
theorem small1000 {n : Nat} (h : n ≤ 1000) : n < sizeLine := Nat.lt_of_le_of_lt h (by decide)

/-! ### expressions in short: the name that stands in the i-th slot -/
section
variable {X : Cx}
theorem pv (i : Nat) {x : Str} {pos : Pos} (hN : X.N[i]? = some x := by rfl) (hv : Vis X.env.scope x := by first | exact Or.inl rfl | exact Or.inr (Or.inl rfl) | exact Or.inr (Or.inr rfl)) (hd : (x == ("__debug__" : Str)) = false := by decide)
    (hcd : (x == ("__classdict__" : Str)) = false := by decide) : PE X (.Name x pos) (tVar i) := pe_var hN hv hd hcd
end

/-! ### tests -/
theorem iteF {A B : Prop} (h : B) : if false = true then A else B := by
  rw [if_neg Bool.false_ne_true]
  exact h
theorem iteT {A B : Prop} (h : A) : if true = true then A else B := by
  rw [if_pos rfl]
  exact h
theorem ite2 {c A B : Prop} [Decidable c] (h1 : c → A) (h2 : ¬ c → B) : if c then A else B := by
  by_cases h : c
  · rw [if_pos h]
    exact h1 h
  · rw [if_neg h]
    exact h2 h
theorem iteNS {c A B : Prop} [Decidable c] (hc : c) (h : B) : if (!decide c) = true then A else B := by
  rw [decide_eq_true hc]
  exact iteF h

/-! ### heaps -/
/-- all that was tracked is as it was -/
def Same (H H' : Hp) : Prop := ∀ b o, H b = some o → H' b = some o
theorem Same.refl (H : Hp) : Same H H := fun _ _ h => h
theorem Same.trans {H H1 H2 : Hp} (a : Same H H1) (b : Same H1 H2) : Same H H2 := fun c o h => b c o (a c o h)
theorem Same.free {H H' : Hp} (e : Same H H') {l : Addr} (h : H' l = Option.none) : H l = Option.none := by
  cases q : H l with
  | none => rfl
  | some o =>
    rw [e l o q] at h
    cases h
theorem Same.seq {K : PySem.W.Frag} {H H' : Hp} {a : Addr} {xs : List V} (e : Same H H') (h : SqL K H a xs) : SqL K H' a xs := by
  rcases h with (h | ⟨o, h⟩) | h
  · exact .inl (.inl (e _ _ h))
  · exact .inl (.inr ⟨o, e _ _ h⟩)
  · exact .inr h

end L2

namespace Us
def G (a b : Int) : Int := ((Int.gcd a b : Nat) : Int)
def low (t b : Int) : Int × Int := (t / G t b, b / G t b)

theorem G_nonneg (a b : Int) : 0 ≤ G a b := Int.natCast_nonneg _
theorem G_pos {a b : Int} (h : 0 < b) : 0 < G a b := by
  unfold G
  have : 0 < Int.gcd a b := Int.gcd_pos_of_ne_zero_right a (by omega)
  omega
theorem G_dvd_left (a b : Int) : G a b ∣ a := Int.gcd_dvd_left ..
theorem G_dvd_right (a b : Int) : G a b ∣ b := Int.gcd_dvd_right ..
theorem G_zero {a : Int} (h : 0 ≤ a) : G a 0 = a := by
  unfold G
  rw [Int.gcd_zero_right]
  omega
/-- one turn of the loop -/
theorem G_turn (a b : Int) : G b (a % b) = G a b := by
  unfold G
  have h : a % b = a - b * (a / b) := by have := Int.emod_add_mul_ediv a b; omega
  rw [h, Int.gcd_sub_mul_left_right, Int.gcd_comm]
theorem G_le {a b : Int} (h : 0 < b) : G a b ≤ b := Int.le_of_dvd h (G_dvd_right a b)
theorem low_snd_pos {t b : Int} (h : 0 < b) : 0 < (low t b).2 := by
  unfold low
  have h1 := G_pos (a := t) h
  have h2 := G_le (a := t) h
  exact Int.ediv_pos_of_pos_of_dvd h (Int.le_of_lt h1) (G_dvd_right t b)
theorem low_fst_nonneg {t b : Int} (h : 0 ≤ t) : 0 ≤ (low t b).1 := Int.ediv_nonneg h (G_nonneg _ _)
theorem low_fst_le {t b : Int} (h : 0 ≤ t) (hb : 0 < b) : (low t b).1 ≤ t := Int.ediv_le_self _ h
theorem low_snd_le {t b : Int} (hb : 0 < b) : (low t b).2 ≤ b := Int.ediv_le_self _ (Int.le_of_lt hb)
theorem low_mul_fst (t b : Int) : (low t b).1 * G t b = t := Int.ediv_mul_cancel (G_dvd_left t b)
theorem low_mul_snd (t b : Int) : (low t b).2 * G t b = b := Int.ediv_mul_cancel (G_dvd_right t b)
theorem low_cross {t b : Int} : (low t b).1 * b = t * (low t b).2 := by
  have h1 := low_mul_fst t b
  have h2 := low_mul_snd t b
  grind
theorem low_coprime {t b : Int} (h : 0 < b) : Int.gcd (low t b).1 (low t b).2 = 1 :=
  Int.gcd_ediv_gcd_ediv_gcd (Int.gcd_pos_of_ne_zero_right t (by omega))
theorem low_of_coprime {t b : Int} (h : Int.gcd t b = 1) : low t b = (t, b) := by
  unfold low G
  rw [h]
  simp
/-- lowest terms are one -/
theorem low_unique {a b c d : Int} (hb : 0 < b) (hd : 0 < d) (h : a * d = c * b) : low a b = low c d := by
  have g1 := G_pos (a := a) hb
  have g2 := G_pos (a := c) hd
  have e : G a b * d = G c d * b := by
    have x1 : Int.gcd (a * d) (b * d) = Int.gcd a b * d.natAbs := Int.gcd_mul_right ..
    have x2 : Int.gcd (c * b) (d * b) = Int.gcd c d * b.natAbs := Int.gcd_mul_right ..
    rw [h, Int.mul_comm b d] at x1
    have x3 : Int.gcd a b * d.natAbs = Int.gcd c d * b.natAbs := by omega
    have x4 := congrArg (fun n : Nat => (n : Int)) x3
    simp only [Int.natCast_mul] at x4
    unfold G
    have y1 : ((d.natAbs : Nat) : Int) = d := by omega
    have y2 : ((b.natAbs : Nat) : Int) = b := by omega
    rw [y1, y2] at x4
    exact x4
  have a1 := low_mul_fst a b
  have b1 := low_mul_snd a b
  have c1 := low_mul_fst c d
  have d1 := low_mul_snd c d
  have s2 : (low a b).2 = (low c d).2 := by
    have : ((low a b).2 - (low c d).2) * (G a b * G c d) = 0 := by grind
    rcases Int.mul_eq_zero.mp this with z | z
    · omega
    · exact absurd z (Int.ne_of_gt (Int.mul_pos g1 g2))
  have s1 : (low a b).1 = (low c d).1 := by
    have p2 := low_snd_pos (t := a) hb
    have : ((low a b).1 - (low c d).1) * (G a b * G c d * (low a b).2) = 0 := by grind
    rcases Int.mul_eq_zero.mp this with z | z
    · omega
    · exact absurd z (Int.ne_of_gt (Int.mul_pos (Int.mul_pos g1 g2) p2))
  exact Prod.ext s1 s2
/-- joined's value -/
def joinM (a b c d : Int) : Int × Int :=
  let g := G b d
  let t := a * (d / g) + c * (b / g)
  let k := G t g
  (t / k, b / g * (d / k))
theorem joinM_eq {a b c d : Int} (hb : 0 < b) (hd : 0 < d) (hab : Int.gcd a b = 1) (hcd : Int.gcd c d = 1) : joinM a b c d = low (a * d + c * b) (b * d) := by
  unfold joinM
  have gp : 0 < G b d := G_pos hd
  obtain ⟨b', hb'⟩ := G_dvd_left b d
  obtain ⟨d', hd'⟩ := G_dvd_right b d
  have eb : b / G b d = b' := by rw [Int.ediv_eq_of_eq_mul_right (by omega) hb']
  have ed : d / G b d = d' := by rw [Int.ediv_eq_of_eq_mul_right (by omega) hd']
  dsimp only
  rw [eb, ed]
  generalize hgd : G b d = g at *
  have cop : Int.gcd b' d' = 1 := by
    have q := Int.gcd_ediv_gcd_ediv_gcd (i := b) (j := d) (Int.gcd_pos_of_ne_zero_right b (by omega))
    have e1 : b / ((Int.gcd b d : Nat) : Int) = b' := by rw [← eb, ← hgd]; rfl
    have e2 : d / ((Int.gcd b d : Nat) : Int) = d' := by rw [← ed, ← hgd]; rfl
    rw [e1, e2] at q
    exact q
  have b'p : 0 < b' := by
    rcases Int.lt_trichotomy 0 b' with z | z | z
    · exact z
    · rw [← z] at hb'; omega
    · exact absurd (Int.mul_neg_of_pos_of_neg gp z) (by omega)
  have d'p : 0 < d' := by
    rcases Int.lt_trichotomy 0 d' with z | z | z
    · exact z
    · rw [← z] at hd'; omega
    · exact absurd (Int.mul_neg_of_pos_of_neg gp z) (by omega)
  generalize ht : a * d' + c * b' = t
  have kp : 0 < G t g := G_pos gp
  obtain ⟨t', ht'⟩ := G_dvd_left t g
  obtain ⟨g', hg'⟩ := G_dvd_right t g
  have et : t / G t g = t' := by rw [Int.ediv_eq_of_eq_mul_right (by omega) ht']
  have eg : d / G t g = g' * d' := by
    rw [Int.ediv_eq_of_eq_mul_right (by omega) (show d = G t g * (g' * d') by rw [← Int.mul_assoc, ← hg']; exact hd')]
  rw [et, eg]
  generalize hk : G t g = k at *
  have g'p : 0 < g' := by
    rcases Int.lt_trichotomy 0 g' with z | z | z
    · exact z
    · rw [← z] at hg'; omega
    · exact absurd (Int.mul_neg_of_pos_of_neg kp z) (by omega)
  -- coprime parts
  have c1 : Int.gcd t' g' = 1 := by
    have q := Int.gcd_ediv_gcd_ediv_gcd (i := t) (j := g) (Int.gcd_pos_of_ne_zero_right t (by omega))
    have e1 : t / ((Int.gcd t g : Nat) : Int) = t' := by rw [← et, ← hk]; rfl
    have e2 : g / ((Int.gcd t g : Nat) : Int) = g' := by
      have : ((Int.gcd t g : Nat) : Int) = k := hk
      rw [this, Int.ediv_eq_of_eq_mul_right (by omega) hg']
    rw [e1, e2] at q
    exact q
  have sub1 : ∀ {x y z : Int}, Int.gcd x y = 1 → z ∣ x → Int.gcd z y = 1 := fun {x y z} h hz => by
    have := Int.gcd_dvd_gcd_of_dvd_left y hz
    rw [h] at this
    exact Nat.dvd_one.mp this
  have sub2 : ∀ {x y z : Int}, Int.gcd x y = 1 → z ∣ y → Int.gcd x z = 1 := fun {x y z} h hz => by
    have := Int.gcd_dvd_gcd_of_dvd_right x hz
    rw [h] at this
    exact Nat.dvd_one.mp this
  have c2 : Int.gcd t b' = 1 := by
    rw [← ht, Int.gcd_add_mul_right_left, Int.gcd_mul_right_left_of_gcd_eq_one (sub2 hab ⟨g, by rw [hb', Int.mul_comm]⟩), Int.gcd_comm]
    exact cop
  have c3 : Int.gcd t d' = 1 := by
    rw [← ht, Int.add_comm, Int.gcd_add_mul_right_left, Int.gcd_mul_right_left_of_gcd_eq_one (sub2 hcd ⟨g, by rw [hd', Int.mul_comm]⟩)]
    exact cop
  have t't : t' ∣ t := ⟨k, by rw [ht', Int.mul_comm]⟩
  have call : Int.gcd t' (b' * (g' * d')) = 1 := by
    rw [Int.gcd_mul_right_right_of_gcd_eq_one (sub1 c2 t't), Int.gcd_mul_right_right_of_gcd_eq_one c1]
    exact sub1 c3 t't
  rw [← low_of_coprime call]
  refine low_unique (Int.mul_pos b'p (Int.mul_pos g'p d'p)) (Int.mul_pos hb hd) ?_
  rw [hb', hd']
  have x1 : t = a * d' + c * b' := ht.symm
  grind
end Us
namespace Us
/-- a power of two, not opened -/
def P2 (n : Nat) : Int := 2 ^ n
theorem P2_pos (n : Nat) : 0 < P2 n := Int.pow_pos (by decide)
theorem P2_one (n : Nat) : 1 ≤ P2 n := P2_pos n
theorem P2_add (m n : Nat) : P2 (m + n) = P2 m * P2 n := Int.pow_add ..
theorem P2_succ (n : Nat) : P2 (n + 1) = 2 * P2 n := by
  unfold P2
  rw [Int.pow_succ, Int.mul_comm]
theorem P2_mono {m n : Nat} (h : m ≤ n) : P2 m ≤ P2 n := by
  obtain ⟨k, rfl⟩ := Nat.exists_eq_add_of_le h
  rw [P2_add]
  have h1 := P2_pos m
  have h2 := P2_one k
  have h3 : P2 m * 1 ≤ P2 m * P2 k := Int.mul_le_mul_of_nonneg_left h2 (Int.le_of_lt h1)
  omega
theorem P2_lit {j : Int} {n : Nat} (h : j ≤ 2 ^ 64) (hn : 64 ≤ n) : j ≤ P2 n := Int.le_trans h (P2_mono hn)
theorem P2_mul {x y : Int} {m n : Nat} (hx : 0 ≤ x) (hx' : x ≤ P2 m) (hy : 0 ≤ y) (hy' : y ≤ P2 n) : x * y ≤ P2 (m + n) := by
  rw [P2_add]
  exact Int.mul_le_mul hx' hy' hy (Int.le_of_lt (P2_pos m))
theorem P2_natAbs {x : Int} {n : Nat} (h1 : -P2 n ≤ x) (h2 : x ≤ P2 n) : x.natAbs < 2 ^ (n + 1) := by
  have e : ((2 ^ (n + 1) : Nat) : Int) = P2 (n + 1) := by unfold P2; simp
  have h3 := P2_succ n
  have h4 := P2_pos n
  have : ((x.natAbs : Nat) : Int) < ((2 ^ (n + 1) : Nat) : Int) := by rw [e]; omega
  exact Int.ofNat_lt.mp this
end Us
namespace Us
/-- the sum of the shares, not brought down: top and bottom -/
def tbStep (p : Int × Int) (s : Int) : Int × Int := (p.1 * s + p.2, p.2 * s)
def tb (xs : List Int) : Int × Int := xs.foldl tbStep (0, 1)
theorem tb_snoc (xs : List Int) (s : Int) : tb (xs ++ [s]) = tbStep (tb xs) s := by unfold tb; rw [List.foldl_append]; rfl
def sumM (xs : List Int) : Int × Int := low (tb xs).1 (tb xs).2
theorem foldl_tb_good {m : Nat} : ∀ (xs : List Int) (n : Nat) (p : Int × Int), (∀ x ∈ xs, 0 < x ∧ x ≤ P2 m) → 0 ≤ p.1 → p.1 ≤ P2 ((m + 1) * n) → 0 < p.2 → p.2 ≤ P2 ((m + 1) * n) →
    0 ≤ (xs.foldl tbStep p).1 ∧ (xs.foldl tbStep p).1 ≤ P2 ((m + 1) * (n + xs.length)) ∧ 0 < (xs.foldl tbStep p).2 ∧ (xs.foldl tbStep p).2 ≤ P2 ((m + 1) * (n + xs.length))
  | [], n, p, _, h1, h2, h3, h4 => ⟨h1, by simpa using h2, h3, by simpa using h4⟩
  | x :: r, n, p, h, h1, h2, h3, h4 => by
    obtain ⟨hx, hx'⟩ := h x List.mem_cons_self
    have e1 := P2_mul h1 h2 (Int.le_of_lt hx) hx'
    have e2 := P2_mul (Int.le_of_lt h3) h4 (Int.le_of_lt hx) hx'
    have e3 : (m + 1) * (n + 1) = ((m + 1) * n + m) + 1 := by rw [Nat.mul_succ]; omega
    have e4 := P2_succ ((m + 1) * n + m)
    have e5 : P2 ((m + 1) * n) ≤ P2 ((m + 1) * n + m) := P2_mono (by omega)
    have g1 : 0 ≤ p.1 * x := Int.mul_nonneg h1 (Int.le_of_lt hx)
    have g2 : 0 < p.2 * x := Int.mul_pos h3 hx
    have g3 := P2_pos ((m + 1) * n + m)
    have q := foldl_tb_good r (n + 1) (tbStep p x) (fun y hy => h y (List.mem_cons_of_mem _ hy)) (by show 0 ≤ p.1 * x + p.2; omega) (by rw [e3, e4]; show p.1 * x + p.2 ≤ _; omega) g2 (by rw [e3, e4]; show p.2 * x ≤ _; omega)
    have e6 : n + 1 + r.length = n + (x :: r).length := by simp; omega
    rw [e6] at q
    exact q
theorem tb_good {m : Nat} {xs : List Int} (h : ∀ x ∈ xs, 0 < x ∧ x ≤ P2 m) : 0 ≤ (tb xs).1 ∧ (tb xs).1 ≤ P2 ((m + 1) * xs.length) ∧ 0 < (tb xs).2 ∧ (tb xs).2 ≤ P2 ((m + 1) * xs.length) := by
  have q := foldl_tb_good xs 0 (0, 1) h (by decide) (by simp [P2]) (by decide) (by simp [P2])
  rw [Nat.zero_add] at q
  exact q
/-- a share joined to a sum in lowest terms -/
theorem join_step {T B s : Int} (hB : 0 < B) (hs : 0 < s) : joinM (low T B).1 (low T B).2 1 s = low (T * s + B) (B * s) := by
  have hp := low_snd_pos (t := T) hB
  rw [joinM_eq hp hs (low_coprime hB) (by simp)]
  refine low_unique (Int.mul_pos hp hs) (Int.mul_pos hB hs) ?_
  have := low_cross (t := T) (b := B)
  grind
theorem low_nil : low 0 1 = (0, 1) := by decide
end Us
namespace Us
/-- the least number of which t/b as often is one or more -/
def cl (t b : Int) : Int := (b + t - 1) / t
theorem cl_spec {t b : Int} (ht : 0 < t) : b ≤ t * cl t b ∧ t * cl t b ≤ b + t - 1 := by
  unfold cl
  have h1 := Int.mul_ediv_add_emod (b + t - 1) t
  have h2 := Int.emod_nonneg (b + t - 1) (show t ≠ 0 by omega)
  have h3 := Int.emod_lt_of_pos (b + t - 1) ht
  generalize t * ((b + t - 1) / t) = u at *
  exact ⟨by omega, by omega⟩
/-- two or more below one -/
theorem cl_ge_two {t b : Int} (ht : 0 < t) (h : t < b) : 2 ≤ cl t b := by
  obtain ⟨g1, g2⟩ := cl_spec (b := b) ht
  have : t * 1 < t * cl t b := by omega
  have := Int.lt_of_mul_lt_mul_left this (Int.le_of_lt ht)
  omega
theorem cl_pos {t b : Int} (ht : 0 < t) (h : 0 < b) : 0 < cl t b := by
  obtain ⟨g1, g2⟩ := cl_spec (b := b) ht
  have : t * 0 < t * cl t b := by omega
  exact Int.lt_of_mul_lt_mul_left this (Int.le_of_lt ht)
theorem cl_le {t b : Int} (ht : 0 < t) (h : 0 < b) : cl t b ≤ b := by
  obtain ⟨g1, g2⟩ := cl_spec (b := b) ht
  rcases Int.lt_or_le b (cl t b) with z | z
  · have h1 : t * (b + 1) ≤ t * cl t b := Int.mul_le_mul_of_nonneg_left (by omega) (by omega)
    have h2 : b * 1 ≤ b * t := Int.mul_le_mul_of_nonneg_left (by omega) (by omega)
    have h3 : t * (b + 1) = b * t + t := by grind
    omega
  · exact z
theorem cl_anti {t t' b : Int} (ht' : 0 < t') (h : t' ≤ t) (hb : 0 < b) : cl t b ≤ cl t' b := by
  obtain ⟨g1, g2⟩ := cl_spec (t := t) (b := b) (by omega)
  obtain ⟨k1, k2⟩ := cl_spec (t := t') (b := b) ht'
  have p := cl_pos (t := t') ht' hb
  rcases Int.lt_or_le (cl t' b) (cl t b) with z | z
  · have h1 : t' * cl t' b ≤ t * cl t' b := Int.mul_le_mul_of_nonneg_right h (by omega)
    have h2 : t * (cl t' b + 1) ≤ t * cl t b := Int.mul_le_mul_of_nonneg_left (by omega) (by omega)
    have h3 : t * (cl t' b + 1) = t * cl t' b + t := by grind
    omega
  · exact z
/-- the numbers of the rising way -/
def eng (b t : Int) : List Int := if 0 < t then cl t b :: eng b (t * cl t b - b) else []
termination_by t.toNat
decreasing_by
  rename_i ht
  obtain ⟨g1, g2⟩ := cl_spec (b := b) ht
  omega
theorem eng_zero {b t : Int} (h : ¬ 0 < t) : eng b t = [] := by rw [eng, if_neg h]
theorem eng_pos {b t : Int} (h : 0 < t) : eng b t = cl t b :: eng b (t * cl t b - b) := by rw [eng, if_pos h]
theorem eng_ind {b : Int} {M : Int → Prop} (h0 : ∀ t, ¬ 0 < t → M t) (h1 : ∀ t, 0 < t → M (t * cl t b - b) → M t) : ∀ t, M t := by
  intro t
  generalize hn : t.toNat = n
  induction n using Nat.strongRecOn generalizing t with
  | _ n ih =>
    by_cases ht : 0 < t
    · obtain ⟨g1, g2⟩ := cl_spec (b := b) ht
      exact h1 t ht (ih _ (by omega) _ rfl)
    · exact h0 t ht
theorem eng_len {b : Int} : ∀ t, 0 ≤ t → ((eng b t).length : Int) ≤ t := by
  refine eng_ind (b := b) (fun t ht h => ?_) (fun t ht ih h => ?_)
  · rw [eng_zero ht]; exact h
  · obtain ⟨g1, g2⟩ := cl_spec (b := b) ht
    rw [eng_pos ht, List.length_cons]
    have := ih (by omega)
    omega
/-- each is two or more and at most b; none falls -/
theorem eng_good {b : Int} : ∀ t, 0 ≤ t → t < b → (∀ x ∈ eng b t, 2 ≤ x ∧ x ≤ b ∧ (0 < t → cl t b ≤ x)) ∧ (eng b t).Pairwise (· ≤ ·) := by
  refine eng_ind (b := b) (fun t ht h0 h => ?_) (fun t ht ih h0 h => ?_)
  · rw [eng_zero ht]
    exact ⟨fun _ z => (nomatch z), List.Pairwise.nil⟩
  · obtain ⟨g1, g2⟩ := cl_spec (b := b) ht
    obtain ⟨i1, i2⟩ := ih (by omega) (by omega)
    rw [eng_pos ht]
    have two := cl_ge_two ht h
    have le := cl_le ht (show 0 < b by omega)
    have key : ∀ x ∈ eng b (t * cl t b - b), cl t b ≤ x := fun x hx => by
      by_cases hp : 0 < t * cl t b - b
      · have a1 := (i1 x hx).2.2 hp
        have a2 := cl_anti (t := t) hp (by omega) (show 0 < b by omega)
        omega
      · rw [eng_zero hp] at hx
        cases hx
    refine ⟨fun x hx => ?_, List.pairwise_cons.mpr ⟨key, i2⟩⟩
    rcases List.mem_cons.mp hx with rfl | hx
    · exact ⟨two, le, fun _ => Int.le_refl _⟩
    · exact ⟨(i1 x hx).1, (i1 x hx).2.1, fun _ => key x hx⟩
/-- the products from the first on -/
def prods (p : Int) : List Int → List Int
  | [] => []
  | f :: r => (p * f) :: prods (p * f) r
def prodL (p : Int) (fs : List Int) : Int := fs.foldl (· * ·) p
theorem prodL_snoc (p : Int) (fs : List Int) (f : Int) : prodL p (fs ++ [f]) = prodL p fs * f := by unfold prodL; rw [List.foldl_append]; rfl
theorem prods_snoc : ∀ (fs : List Int) (p f : Int), prods p (fs ++ [f]) = prods p fs ++ [prodL p fs * f]
  | [], _, _ => rfl
  | _ :: r, p, f => congrArg (List.cons _) (prods_snoc r _ f)
theorem prods_len : ∀ (fs : List Int) (p : Int), (prods p fs).length = fs.length
  | [], _ => rfl
  | _ :: r, p => congrArg (· + 1) (prods_len r _)
theorem low_between {t b : Int} (h0 : 0 < t) (h1 : t < b) : 0 < (low t b).1 ∧ (low t b).1 < (low t b).2 := by
  have g := G_pos (a := t) (show 0 < b by omega)
  have e1 := low_mul_fst t b
  have e2 := low_mul_snd t b
  refine ⟨?_, ?_⟩
  · refine Int.lt_of_mul_lt_mul_right (a := G t b) ?_ (Int.le_of_lt g)
    rw [e1, Int.zero_mul]
    exact h0
  · refine Int.lt_of_mul_lt_mul_right (a := G t b) ?_ (Int.le_of_lt g)
    rw [e1, e2]
    exact h1
end Us
namespace L2
open PySem PySem.Spec PyProof.Rows
def CMulB (i j : Int) : Prop := (-Us.P2 9000 ≤ i ∧ i ≤ Us.P2 9000) ∧ (-Us.P2 9000 ≤ j ∧ j ≤ Us.P2 9000)
theorem CMulB.ok {i j : Int} (h : CMulB i j) : IntMulOk i j :=
  mulOk_of_bits (m := 9001) (n := 9001) (intBits_le_iff.mpr (Us.P2_natAbs h.1.1 h.1.2)) (intBits_le_iff.mpr (Us.P2_natAbs h.2.1 h.2.2)) (by decide)
theorem CMulB.of {i j : Int} {m n : Nat} (h1 : 0 ≤ i) (h2 : i ≤ Us.P2 m) (h3 : 0 ≤ j) (h4 : j ≤ Us.P2 n) (hm : m ≤ 9000) (hn : n ≤ 9000) : CMulB i j := by
  have a := Us.P2_mono hm
  have b := Us.P2_mono hn
  have c := Us.P2_pos 9000
  exact ⟨⟨by omega, by omega⟩, ⟨by omega, by omega⟩⟩
def CDivB (_ j : Int) : Prop := 0 < j ∧ j ≤ Us.P2 8999
theorem CDivB.np {i j : Int} (h : CDivB i j) : Builtin.divisionGoesByPylong i j = false := by
  have h1 : (0 : Int) < j := h.1
  have h2 := Us.P2_natAbs (n := 8999) (x := j) (by have := Us.P2_pos 8999; omega) h.2
  exact PyProof.noPylong_of_log2 ((Nat.log2_lt (by omega)).mpr h2)
theorem CDivB.lit {i j : Int} (h : 0 < j) (h2 : j ≤ 2 ^ 64) : CDivB i j := ⟨h, Us.P2_lit h2 (by decide)⟩
section
variable {X : Cx}
theorem op_mulB : OpR X (binaryOp .Mult) (rI CMulB fun i j => .int (i * j)) := opI fun _ _ _ _ _ _ _ hc q => mul_int q hc.ok
theorem op_fdivB : OpR X (binaryOp .FloorDiv) (rI CDivB fun i j => .int (i / j)) := opI fun i j _ _ _ _ _ hc q => by
  have h1 : (0 : Int) < j := hc.1
  exact floordiv_int (by omega) (by rw [Int.fdiv_eq_ediv_of_nonneg i (by omega)]; exact q) (.inl hc.np)

/-- what is wanted ahead of the rest, said once for all ways into it -/
theorem PSs.imp {sts : List Stmt} {t t' : TS} (h : PSs X sts t) (h' : ∀ D σ H, t' D σ H → t D σ H) : PSs X sts t' := fun pins s σ H D I q => h pins s σ H D I (h' D σ H q)

/-! ### isinstance(x, T), T a built-in type -/
def rIsi (K : PySem.W.Frag) : List V → Hp → VK → Prop := fun xs H Q => ∃ x n t b, xs = [x, .ty n] ∧ TyOf K H x t ∧ PySem.W.kitOne K t (.type n) = some b ∧ Q (.bl b) H
/-- a built-in type's name as a value -/
theorem pe_ty {x : Str} {n : String} {pos : Pos} (hm : X.mg x = none) (hv : bootBuiltins x = some (.type n)) (hg : Gl X x := by rfl) (hn : x ≠ "__name__" := by decide) (hd : (x == ("__debug__" : Str)) = false := by decide) : PE X (.Name x pos) (tC (.ty n)) :=
  pe_bltn hg hm hv rfl hn hd
end

/-! ### == and != of data: ints, bools, None, texts, lists and tuples of them -/
mutual
inductive DV (K : PySem.W.Frag) (H : Hp) : V → PyData → Prop
  | non : DV K H .non .none
  | bl (b : Bool) : DV K H (.bl b) (.bool b)
  | int (i : Int) : DV K H (.int i) (.int i)
  | str (x : Str) : DV K H (.str x) (.str x)
  | lst {a : Addr} {xs : List V} {ds : List PyData} (h : SqL K H a xs) (d : DVs K H xs ds) : DV K H (.ref a) (.list ds)
  | tup {a : Addr} {xs : List V} {ds : List PyData} (h : SqT K H a xs) (d : DVs K H xs ds) : DV K H (.ref a) (.tuple ds)
inductive DVs (K : PySem.W.Frag) (H : Hp) : List V → List PyData → Prop
  | nil : DVs K H [] []
  | cons {v : V} {d : PyData} {vs : List V} {ds : List PyData} (h : DV K H v d) (t : DVs K H vs ds) : DVs K H (v :: vs) (d :: ds)
end
section
variable {X : Cx} {pins : List (Addr × Obj)} {σ : St} {H : Hp} {s : Shared}
mutual
theorem DV.reads (I : Inv X pins σ H s) : ∀ {x : V} {d : PyData}, DV X.K H x d → ∀ {u : Value}, RelV x u → ∃ as, Reads s.heap u d as
  | _, _, .non, u, r => by obtain rfl : u = Value.none := r; exact ⟨_, .none⟩
  | _, _, .bl b, u, r => by obtain rfl : u = Value.bool b := r; exact ⟨_, .bool b⟩
  | _, _, .int i, u, r => by obtain ⟨t, rfl⟩ := (show ∃ t, u = Value.int i t from r); exact ⟨_, .int i t⟩
  | _, _, .str x, u, r => by obtain ⟨t, rfl⟩ := (show ∃ t, u = Value.str x t from r); exact ⟨_, .str x t⟩
  | _, _, .lst (a := a) h d, u, r => by
    obtain rfl : u = Value.ref a := r
    obtain ⟨its, rv, ⟨o, n, e, c, _, dt⟩, _⟩ := I.list h
    obtain ⟨as, ra⟩ := DVs.reads I d rv
    exact ⟨_, .list e c dt (by simpa using ra)⟩
  | _, _, .tup (a := a) h d, u, r => by
    obtain rfl : u = Value.ref a := r
    obtain ⟨its, rv, ⟨o, e, c, n, dt⟩, _⟩ := I.tuple h
    obtain ⟨as, ra⟩ := DVs.reads I d rv
    exact ⟨_, .tuple e c dt (by simpa using ra)⟩
theorem DVs.reads (I : Inv X pins σ H s) : ∀ {xs : List V} {ds : List PyData}, DVs X.K H xs ds → ∀ {us : List Value}, Vals xs us → ∃ as, ReadsAll s.heap us ds as
  | _, _, .nil, _, .nil => ⟨_, .nil⟩
  | _, _, .cons h t, _, .cons r rr => by
    obtain ⟨as, ra⟩ := DV.reads I h r
    obtain ⟨bs, rb⟩ := DVs.reads I t rr
    exact ⟨_, .cons ra rb⟩
end
end
def rEqD (K : PySem.W.Frag) : R2 := fun x y H Q => ∃ d e, DV K H x d ∧ DV K H y e ∧ SeqAt.shaped d = true ∧ SeqAt.shaped e = true ∧ Q (.bl (PyData.eqv d e)) H
def rNeD (K : PySem.W.Frag) : R2 := fun x y H Q => ∃ d e, DV K H x d ∧ DV K H y e ∧ SeqAt.shaped d = true ∧ SeqAt.shaped e = true ∧ Q (.bl (!PyData.eqv d e)) H
section
variable {X : Cx}
theorem op_eqD (hu : X.A.units + 64 < cLine) : OpR X (compareOp .Eq) (rEqD X.K) := by
  intro pins s σ H x y v u Q I rx ry h
  obtain ⟨d, e, hx, hy, h1, h2, q⟩ := h
  obtain ⟨as, ra⟩ := hx.reads I rx
  obtain ⟨bs, rb⟩ := hy.reads I ry
  exact eq_dataH ra rb h1 h2 hu ⟨.bl _, H, I, rfl, q⟩
theorem op_neD (hu : X.A.units + 64 < cLine) : OpR X (compareOp .NotEq) (rNeD X.K) := by
  intro pins s σ H x y v u Q I rx ry h
  obtain ⟨d, e, hx, hy, h1, h2, q⟩ := h
  obtain ⟨as, ra⟩ := hx.reads I rx
  obtain ⟨bs, rb⟩ := hy.reads I ry
  exact ne_dataH ra rb h1 h2 hu ⟨.bl _, H, I, rfl, q⟩
end
theorem dvs_ints {K : PySem.W.Frag} {H : Hp} : ∀ ns : List Int, DVs K H (ns.map V.int) (ns.map PyData.int)
  | [] => .nil
  | n :: r => .cons (.int n) (dvs_ints r)
theorem eqv_tup (ns ms : List Int) : PyData.eqv (.tuple (ns.map PyData.int)) (.tuple (ms.map PyData.int)) = decide (ns = ms) := by
  rw [PyData.eqv]
  exact PySem.W.ked_eqvAll ns ms
theorem shaped_tup (ns : List Int) : SeqAt.shaped (.tuple (ns.map PyData.int)) = true := by
  simp [SeqAt.shaped, PyData.canLay0, PyData.depth, PySem.W.ke_canLayAll0, PySem.W.ke_depthAll]

/-! ### texts: 'a' * n, int(text) -/
def repS (z : Str) (n : Nat) : Str := ⟨(List.replicate n z.cps).foldl (· ++ ·) #[]⟩
section
variable {X : Cx}
def rMulS : R2 := fun x y H Q => ∃ z n, x = .str z ∧ y = .int n ∧ 2 ≤ n ∧ n ≤ 1000 ∧ 1 ≤ z.length ∧ z.length ≤ 1000 ∧ Q (.str (repS z n.toNat)) H
def rIntS : List V → Hp → VK → Prop := fun xs H Q => ∃ z n, xs = [.str z] ∧ z.length ≤ 640 ∧ PySem.intText? z = some n ∧ Q (.int n) H
end

/-! ### a def of the text, as callers see it; as the top gives it -/
structure Cal (P : Program) (w : World) (K : PySem.W.Frag) (mg : Str → Option Value) (base : Heap) (CX : CXT) (x : Str) (ps : List Str) (k : Nat) (sp : Sp) : Prop where
  ex : ∃ (f : Addr) (fd : FuncData), FnOk P w K mg base CX k f fd ps sp ∧ Binds K fd ps [] ∧ PySem.W.keepIn K (.ref f) = true ∧ mg x = some (.ref f) ∧ ∃ (oc : Value) (od : Option Addr) (osl : Array (Option Value)), K.lookup f = some ⟨oc, od, .func fd, osl⟩
theorem Cal.law {P : Program} {w : World} {K : PySem.W.Frag} {mg : Str → Option Value} {base : Heap} {CX : CXT} {x : Str} {ps : List Str} {k : Nat} {sp : Sp} {f : Addr} {fd : FuncData} {oc : Value} {od : Option Addr} {osl : Array (Option Value)} (C : Cal P w K mg base CX x ps k sp)
    (m : mg x = some (.ref f)) (l : K.lookup f = some ⟨oc, od, .func fd, osl⟩) : FnOk P w K mg base CX k f fd ps sp := by
  obtain ⟨f', fd', F, _, _, m', oc', od', osl', l'⟩ := C.ex
  rw [m] at m'
  cases m'
  rw [l] at l'
  cases l'
  exact F
theorem Cal.imp {P : Program} {w : World} {K : PySem.W.Frag} {mg : Str → Option Value} {base : Heap} {CX : CXT} {x : Str} {ps : List Str} {k : Nat} {sp sp' : Sp} (C : Cal P w K mg base CX x ps k sp) (h : ∀ vs H Q E, sp' vs H Q E → sp vs H Q E) : Cal P w K mg base CX x ps k sp' := by
  obtain ⟨f, fd, F, b⟩ := C.ex
  exact ⟨f, fd, F.imp h, b⟩
theorem pe_cal {X : Cx} {CX : CXT} {x : Str} {ps : List Str} {j k : Nat} {sp : Sp} {E : XK} {e : Expr} {es : List Expr} {t : TA} {p pos : Pos} (C : Cal X.prog X.w X.K X.mg X.base CX x ps j sp) (hr : Room k X.A) (hx : Passes CX X E) (ha : PA X (e :: es) t)
    (hj : j ≤ k := by decide) (hg : Gl X x := by rfl) (hdb : (x == ("__debug__" : Str)) = false := by decide) (he : starEach (e :: es) X.env = (false, eval e X.env) :: starEach es X.env := by rfl) (hpl : (backTo pos (starEach es X.env)).any (·.1) = false := by rfl) :
    PE X (.Call (.Name x p) (e :: es) [] pos) (tCall sp [] E t) := by
  obtain ⟨f, fd, F, b, kp, m, _⟩ := C.ex
  exact pe_call (F.mono hj) hr hg m kp b .nil hx ha hdb he hpl
structure Def (K : PySem.W.Frag) (mg : Str → Option Value) (x : Str) (st : Stmt) : Prop where
  ex : ∃ (f : Addr) (fd : FuncData), Fun K x x st f fd ∧ mg x = some (.ref f)
theorem Def.cal {P : Program} {w : World} {K : PySem.W.Frag} {mg : Str → Option Value} {base : Heap} {x : Str} {st : Stmt} {N ps : List Str} {k : Nat} {sp : Sp} (D : Def K mg x st) (S : FnScope N ps (defScope st))
    (hb : ∀ (kV doc pm : Value) (an : Option Addr) (cdv ct : Value) (us : List Value), us.length = ps.length → bindArgs (PySem.W.fnOf x x (defArgs st) (defBody st) (defScope st) .none kV doc pm an cdv ct) ⟨us, []⟩ = pure (ps.zip us))
    (len : ∀ vs H Q E, sp vs H Q E → vs.length = ps.length)
    (hbody : ∀ (f : Addr) (cdv : Value) (A : Around) (outer : List Env) (s : Shared) (H : Hp) (vs : List V) (Q : VK) (E : XK), Room k (A.deeper (envOfC x (defScope st) s.heap.objs.size f cdv)) → sp vs H Q E →
      ∃ t, PSs (cxOf CX0 P w K mg base N x (defScope st) f cdv A outer s H E).nox (defBody st) t ∧ t { nx := fun _ H' => Q .non H', rt := Q } (start N vs) H) : Cal P w K mg base CX0 x ps (k + 1) sp := by
  obtain ⟨f, fd, F, m⟩ := D.ex
  have F' := F.ok (P := P) (w := w) (mg := mg) (base := base) S len fun cdv A outer s H vs Q E hr h => hbody f cdv A outer s H vs Q E hr h
  have b := F.binds hb
  obtain ⟨oc, od, kV, doc, pm, an, cdv, ct, osl, e, lk, hcd⟩ := F.ex
  exact ⟨f, fd, F', b, F.kp, m, oc, od, osl, lk⟩
theorem Def.mk' {K : PySem.W.Frag} {mg : Str → Option Value} {h : Heap} {x : Str} {st : Stmt} {f : Addr} {oc : Value} {od an : Option Addr} {osl : Array (Option Value)} {kV doc pm cdv ct : Value} (X : K.In h) (G : h.Ns mainGlobals mg)
    (a : PySem.W.nsIn K mainGlobals x = some (some (.ref f))) (l : K.lookup f = some ⟨oc, od, .func (PySem.W.fnOf x x (defArgs st) (defBody st) (defScope st) .none kV doc pm an cdv ct), osl⟩)
    (c : PySem.W.codeIn K cdv x = true) (k : PySem.W.keepIn K (.ref f) = true) : Def K mg x st := ⟨f, _, fun_mk l c k, PySem.W.mg_of X G a⟩
theorem at0 {α : Type} {x : α} {xs : List α} : atI (x :: xs) 0 = some x := atI_nat (j := 0) rfl
theorem at1 {α : Type} {x y : α} {xs : List α} : atI (x :: y :: xs) 1 = some y := atI_nat (j := 1) rfl
theorem at_int {ns : List Int} {i : Int} (h0 : 0 ≤ i) (h : i < (ns.length : Int)) : atI (ns.map V.int) i = some (.int (ns.getD i.toNat 0)) := by
  have e : i = ((i.toNat : Nat) : Int) := by omega
  have hi : i.toNat < ns.length := by omega
  have q : (ns.map V.int)[i.toNat]? = some (.int (ns.getD i.toNat 0)) := by
    rw [List.getElem?_map, List.getD_eq_getElem?_getD, List.getElem?_eq_getElem hi]
    rfl
  have z := atI_nat q
  rw [← e] at z
  exact z
theorem map_get {xs : List Int} {i : Nat} {x : V} (h : (xs.map V.int)[i]? = some x) : ∃ z, xs[i]? = some z ∧ x = .int z := by
  rw [List.getElem?_map] at h
  cases e : xs[i]? with
  | none => rw [e] at h; cases h
  | some z => rw [e] at h; exact ⟨z, rfl, (Option.some.inj h).symm⟩
theorem iteDF {p A B : Prop} [Decidable p] (hp : ¬ p) (h : B) : if decide p = true then A else B := by
  rw [decide_eq_false hp]
  exact iteF h
theorem iteDT {p A B : Prop} [Decidable p] (hp : p) (h : A) : if decide p = true then A else B := by
  rw [decide_eq_true hp]
  exact iteT h
def sp_gcd : Sp := fun vs H Q _ => ∃ a b : Int, vs = [.int a, .int b] ∧ 0 ≤ a ∧ 0 ≤ b ∧ Q (.int (Us.G a b)) H
/-- a new object beside the old ones -/
theorem Same.new {H : Hp} {p : Addr} (h : H p = none) (o : HO) : Same H (upd H p o) := fun b u q => by rw [upd_ne (ne_of_none q h)]; exact q
theorem Same.tup {K : PySem.W.Frag} {H H' : Hp} {a : Addr} {xs : List V} (e : Same H H') (h : SqT K H a xs) : SqT K H' a xs := by
  rcases h with (h | ⟨o, h⟩) | h
  · exact .inl (.inl (e _ _ h))
  · exact .inl (.inr ⟨o, e _ _ h⟩)
  · exact .inr h
end L2
/-! OWN RULES, two: sorted, min. -/
namespace L2
open PySem PySem.Spec PyProof.Rows
theorem ObjOk.get {P : Program} {w : World} {H : Hp} {h : Heap} {a : Addr} {o : HO} (x : ObjOk P w H h a o) : ∃ u, h.get? a = some u := by
  cases o with
  | lst xs => obtain ⟨_, _, _, _, e⟩ := x; exact ⟨_, e⟩
  | tup xs => obtain ⟨_, _, _, p⟩ := x; obtain ⟨o, e, _⟩ := p; exact ⟨_, e⟩
  | dK kvs => obtain ⟨_, _, _, _, o, _, _, e, _⟩ := x; exact ⟨_, e⟩
  | dT kvs => obtain ⟨_, _, _, _, o, _, _, e, _⟩ := x; exact ⟨_, e⟩
  | set S n => obtain ⟨o, _, _, _, e, _⟩ := x; exact ⟨_, e⟩
  | ins C dx fs => obtain ⟨_, _, _, e, _⟩ := x; exact ⟨_, e⟩
  | own y => obtain ⟨_, e⟩ := x; exact ⟨_, e⟩
  | xd fs => obtain ⟨_, ⟨_, _, _, e, _⟩, _⟩ := x; exact ⟨_, e⟩
  | rng lo hi => obtain ⟨_, _, _, e⟩ := x; exact ⟨_, e⟩
  | frz ob u => obtain ⟨e, _⟩ := x; exact ⟨_, e⟩
  | tbl ps => exact ⟨_, (show h.get? a = some _ from x)⟩
  | met f y => exact ⟨_, (show h.get? a = some _ from x)⟩
  | ext φ => obtain ⟨_, e, _⟩ := x; exact e
theorem HOk.keptT {P : Program} {w : World} {H : Hp} {h h' : Heap} (x : HOk P w H h) (k : ∀ b u o, H b = some u → h.get? b = some o → h'.get? b = some o) : HOk P w H h' := fun a o e =>
  (x a o e).stay (fun b u hb q => by
    rcases hb with z | z
    · rw [z] at q ⊢
      exact k a o u e q
    · exact k b _ u z q) (fun _ q => q) fun _ _ q => q
theorem ns_fun {h : Heap} {a : Addr} {m m' : Str → Option Value} (x : h.Ns a m) (y : h.Ns a m') : m = m' := by
  obtain ⟨o, es, ep, e, d, _, f⟩ := x
  obtain ⟨o', es', ep', e', d', _, f'⟩ := y
  rw [e] at e'
  cases e'
  rw [d] at d'
  cases d'
  funext z
  rw [← f, ← f']
section
variable {X : Cx} {pins : List (Addr × Obj)} {σ : St} {H : Hp} {s : Shared}
/-- behind a rule of the ledger that keeps all -/
theorem Inv.ledger {h' : Heap} {t' : Nat} {m : Str → Option Value} (I : Inv X pins σ H s) (F : Fr X.base X.env.locals s.heap m) (F' : Fr X.base X.env.locals h' m) (N' : News X.base X.env.locals h' (allNews X.base s.heap X.env.locals)) : Inv X pins σ H { s with heap := h', toks := t' } := by
  have k : ∀ b o, b ≠ X.env.locals → s.heap.get? b = some o → h'.get? b = some o := fun b o hb e => by
    cases q : X.base.get? b with
    | some u =>
      have := I.bk b u q
      rw [e] at this
      cases this
      exact F'.keep b _ q
    | none => exact (N' (b, o) (mem_allNews hb q e)).1
  have ns : ∀ m', s.heap.Ns X.env.locals m' → h'.Ns X.env.locals m' := fun m' hm => by
    rw [ns_fun hm F.ns]
    exact F'.ns
  have nL : ∀ b u, H b = some u → b ≠ X.env.locals := fun b u e z => by rw [z, I.free] at e; cases e
  refine I.step (g' := s.gens) (d' := s.drawn) (ch := []) (fun _ z => nomatch z) (fun b o hb _ _ e _ => k b o hb e) (fun b o hb _ _ e _ => ⟨o.slots, k b o hb e⟩) (fun _ _ _ _ n => n) (fun b o _ e => ?_) (fun _ _ q => q) (fun _ _ _ q => q) (fun _ ps q => ⟨#[], by rw [q]; simp⟩) ns ?_ I.bare
  · by_cases hb : b = X.env.locals
    · obtain ⟨o', _, _, e', _⟩ := F'.ns
      exact ⟨o', by rw [hb]; exact e'⟩
    · exact ⟨o, k b o hb e⟩
  · exact fun a u e => (I.hok a u e).stay (fun b w hb q => k b w (by
      rcases hb with z | z
      · rw [z]; exact nL a u e
      · exact nL b _ z) q) (fun _ q => q) fun _ _ q => q
end
section
variable {X : Cx}
def rSorted (K : PySem.W.Frag) : List V → Hp → VK → Prop := fun xs H Q => ∃ (p : Addr) (ns : List Int), xs = [.ref p] ∧ SqL K H p (ns.map V.int) ∧ ns.length < 64 ∧ ∀ (l : Addr) (ms : List Int), H l = none → ms.Perm ns → ms.Pairwise (· ≤ ·) → Q (.ref l) (upd H l (.lst (ms.map V.int)))
def rMin (K : PySem.W.Frag) : List V → Hp → VK → Prop := fun xs H Q => ∃ (p : Addr) (ns : List Int), xs = [.ref p] ∧ SqL K H p (ns.map V.int) ∧ 0 < ns.length ∧ ∀ m : Int, m ∈ ns → (∀ a ∈ ns, m ≤ a) → Q (.int m) H
end
end L2

/-! EXCEPTIONS of own classes, over the layer: raised in a def, passed on by its callers. -/
namespace L2
open PySem PySem.Spec PyProof.Rows
/-- an exception at x, of the own class at C, flies: outer are the frames below, H and s the state at the call, H' and s' the state now -/
structure Fly0 (P : Program) (w : World) (outer : List Env) (H : Hp) (s : Shared) (x : Addr) (H' : Hp) (s' : Shared) : Prop where
  os : s'.os = s.os
  bare : AllBare s'.gens
  un : Un (frs outer) [] H H' s.heap s'.heap
  hok : HOk P w H' s'.heap
  new : H' x = none
  fresh : s.heap.get? x = none
structure Fly (P : Program) (w : World) (outer : List Env) (H : Hp) (s : Shared) (x C : Addr) (H' : Hp) (s' : Shared) : Prop extends Fly0 P w outer H s x H' s' where
  fl : ∃ (B : Heap) (a0 : Value), Heap.FlyingW B outer x (.ref C) a0 s'.heap ∧ (∀ b u o, H' b = some u → s'.heap.get? b = some o → B.get? b = some o) ∧
    (∀ b o o', s.heap.get? b = some o → b ∉ frs outer → s'.heap.get? b = some o' → B.get? b = some o')
def CXE (P : Program) (w : World) : CXT := fun outer H s E e s' => ∃ (x C : Addr) (H' : Hp), e = .ref x ∧ Fly P w outer H s x C H' s' ∧ E (.ref C) none H'

/-- a body whose exceptions leave it so -/
structure OwnX (X : Cx) (E : XK) : Prop where
  xe : ∀ e s', wpAny (model X.prog X.w) X.A (leaving X.env e) (fun _ s'' => CXE X.prog X.w X.outer X.H₀ X.s₀ E e s'') (fun e' s'' => CXE X.prog X.w X.outer X.H₀ X.s₀ E e' s'') s' → X.xe e s'
  ex : X.ex = []
  st : X.stack = X.env :: X.outer
  fr : X.env.frame = some X.env.locals
theorem own_cx {P : Program} {w : World} {K : PySem.W.Frag} {mg : Str → Option Value} {base : Heap} {N : List Str} {qual : Str} {scope : Scope} {f : Addr} {cd : Value} {A : Around} {outer : List Env} {s : Shared} {H : Hp} {E : XK} :
    OwnX (cxOf (CXE P w) P w K mg base N qual scope f cd A outer s H E) E := ⟨fun _ _ h => h, rfl, rfl, rfl⟩

section
variable {X : Cx} {pins : List (Addr × Obj)} {σ : St} {H1 : Hp} {s1 : Shared} {E : XK}
/-- what is known of old things behind a state of this body and a heap that keeps B -/
theorem Fly0.out (I : Inv X pins σ H1 s1) (O : X.ex = []) {x C : Addr} {H' : Hp} {s' : Shared} (F : Fly0 X.prog X.w X.stack H1 s1 x H' s') {h' : Heap} {B : Heap} {a0 : Value}
    (t1 : ∀ b u o, H' b = some u → s'.heap.get? b = some o → B.get? b = some o) (t2 : ∀ b o o', s1.heap.get? b = some o → b ∉ frs X.stack → s'.heap.get? b = some o' → B.get? b = some o')
    (fl' : Heap.FlyingW B X.outer x (.ref C) a0 h') (up : s'.heap.UpToSlots h') : Fly X.prog X.w X.outer X.H₀ X.s₀ x C H' { s' with heap := h' } := by
  have st : ∀ b o, B.get? b = some o → h'.get? b = some o := fl'.1
  have nx : ∀ b : Addr, b ∉ X.ex := fun b => by rw [O]; simp
  have ne : ∀ b o, X.s₀.heap.get? b = some o → b ∉ frs X.outer → b ∉ frs X.stack := fun b o e nb hb => by
    rcases List.mem_cons.mp (I.stkSub b hb) with z | z
    · exact absurd (Heap.lt_size e) (by rw [z]; exact Nat.not_lt.mpr I.ok.above)
    · exact nb z
  have old : ∀ b o, X.s₀.heap.get? b = some o → b ∉ frs X.outer → ∃ o', s'.heap.get? b = some o' ∧ B.get? b = some o' := fun b o e nb => by
    obtain ⟨o1, e1⟩ := I.base.there b o e (nx b)
    obtain ⟨o2, e2⟩ := F.un.there b o1 e1 (by simp)
    exact ⟨o2, e2, t2 b o1 o2 e1 (ne b o e nb) e2⟩
  have slot : ∀ b o, X.s₀.heap.get? b = some o → X.H₀ b = none → b ∈ frs X.outer → ∃ sl, h'.get? b = some { o with slots := sl } := fun b o e n hb => by
    obtain ⟨sl1, e1⟩ := I.base.slot b o e n hb (nx b)
    obtain ⟨sl2, e2⟩ := F.un.any e1 (I.base.free b o e n (nx b)) (by simp)
    obtain ⟨_, o0, ho0, hd⟩ := I.ok.funs.mem hb
    rw [e] at ho0
    cases ho0
    obtain ⟨sl3, e3⟩ := up b _ e2 fun vs q => hd vs q
    exact ⟨sl3, e3⟩
  have fresh0 : X.s₀.heap.get? x = none := by
    cases z : X.s₀.heap.get? x with
    | none => rfl
    | some o =>
      obtain ⟨o1, e1⟩ := I.base.there x o z (nx x)
      rw [F.fresh] at e1
      cases e1
  refine ⟨⟨F.os.trans I.os, F.bare, ⟨fun b o e n hb _ => ?_, fun b o e n hb _ => slot b o e n hb, fun b o e n _ => ?_, fun b o e _ => ?_, fun b xs e => F.un.tups b xs (I.base.tups b xs e), fun b o u e => F.un.frzs b o u (I.base.frzs b o u e), fun b ps e => ?_⟩,
    F.hok.keptT fun b u o e q => st b o (t1 b u o e q), F.new, fresh0⟩, ⟨B, a0, fl', fun b u o e q => ?_, fun b o o' e nb q => ?_⟩⟩
  · have e1 := I.base.keep b o e n hb (nx b)
    have n1 := I.base.free b o e n (nx b)
    have e2 := F.un.keep b o e1 n1 (ne b o e hb) (by simp)
    exact st b o (t2 b o o e1 (ne b o e hb) e2)
  · obtain ⟨o1, e1⟩ := I.base.there b o e (nx b)
    exact F.un.free b o1 e1 (I.base.free b o e n (nx b)) (by simp)
  · by_cases hb : b ∈ frs X.outer
    · obtain ⟨sl, q⟩ := slot b o e (I.ok.frf b hb) hb
      exact ⟨_, q⟩
    · obtain ⟨o', _, q⟩ := old b o e hb
      exact ⟨o', st _ _ q⟩
  · obtain ⟨m1, e1⟩ := I.base.tbls b ps e
    obtain ⟨m2, e2⟩ := F.un.tbls b _ e1
    exact ⟨m1 ++ m2, by rw [e2, Array.append_assoc]⟩
  · obtain ⟨o1, e1⟩ := (F.hok b u e).get
    have eB := t1 b u o1 e e1
    have q' : h'.get? b = some o := q
    rw [st _ _ eB] at q'
    cases q'
    exact eB
  · obtain ⟨o1, _, eB⟩ := old b o e nb
    have q' : h'.get? b = some o' := q
    rw [st _ _ eB] at q'
    cases q'
    exact eB
/-- a callee's exception passes on -/
theorem passE (O : OwnX X E) : Passes (CXE X.prog X.w) X E := by
  intro pins σ H1 s1 e s' I h
  obtain ⟨x, C, H', rfl, F, hE⟩ := h
  refine O.xe _ _ ?_
  obtain ⟨B, a0, fl, t1, t2⟩ := F.fl
  have fl0 := fl
  rw [O.st] at fl0
  exact wpAny_leaves_onW (by rw [I.ok.frames, O.st]) O.fr fl0 fun h' fl' up => ⟨x, C, H', rfl, F.toFly0.out I O.ex t1 t2 fl' up, hE⟩
end

/-! ### raise C(..), C an own class under ValueError -/
abbrev mroVE : List Value := [.type "ValueError", .type "Exception", .type "BaseException", .type "object"]
theorem cls_in {K : PySem.W.Frag} {h : Heap} {C : Addr} (X : K.In h) (q : PySem.W.excIn K C mroVE "ValueError.__new__" = true) : ∃ (tl : List Value) (N : Addr) (nm qn : Str) (bs : List Value) (hd : Bool) (sn : List Str) (sub : List Value) (ab : Bool) (col : Option Bool) (dd : Option Addr) (k0 k1 k2 k3 k5 : Option Value) (mN : Str → Option Value),
    h.get? C = some (excClassObj nm qn C N bs tl hd sn sub ab col dd k0 k1 k2 k3 k5 "ValueError.__new__") ∧ h.Ns N mN ∧ mN "__init__" = none ∧ OwnTail h mroVE tl := by
  unfold PySem.W.excIn at q
  split at q
  next dd cd sl found =>
    split at q
    next C2 tl k0 k1 k2 k3 nid k5 em es =>
      simp only [Bool.and_eq_true, beq_iff_eq, Bool.not_eq_true'] at q
      obtain ⟨⟨⟨⟨⟨q1, q2⟩, q3⟩, q4⟩, q5⟩, q6⟩ := q
      subst q1 q2
      obtain ⟨nm, bs, mro, ns, qn, hd, sn, sub, ab, col, del⟩ := cd
      dsimp only at em q3 q5 q6
      subst em
      subst q3
      obtain ⟨sll⟩ := sl
      have esl : sll = [k0, k1, k2, k3, some (.builtin "ValueError.__new__"), k5] := es
      subst esl
      exact ⟨tl, ns, nm, qn, bs, hd, sn, sub, ab, col, dd, k0, k1, k2, k3, k5, _, X _ _ found, .of_isNs (PySem.W.isNs_of_in X q5), PySem.W.nsMap_none_of_in X q5 q6, PySem.W.tail_of_in X q4⟩
    next => cases q
  next => cases q
def tRaise (C : Addr) (E : XK) (ta : TA) : TS := fun _ σ H => ta σ H fun xs H1 => xs.length ≤ sizeLine ∧ E (.ref C) none H1
theorem ps_raise {X : Cx} {E : XK} {x : Str} {C : Addr} {e : Expr} {es : List Expr} {ta : TA} {np cpos pos : Pos} (O : OwnX X E) (hc : X.calm = true) (hm : X.mg x = some (.ref C)) (hq : PySem.W.excIn X.K C mroVE "ValueError.__new__" = true) (ha : PA X (e :: es) ta) (hg : Gl X x := by rfl)
    (hd : (x == ("__debug__" : Str)) = false := by decide) (hs : starEach (e :: es) X.env = (false, eval e X.env) :: starEach es X.env := by rfl) (hpl : (backTo cpos (starEach es X.env)).any (·.1) = false := by rfl) :
    PS X (.Raise (some (.Call (.Name x np) (e :: es) [] cpos)) none pos) (tRaise C E ta) := by
  intro pins s σ H D I h
  obtain ⟨tl, N, nm, qn, bs, hd', sn, sub, ab, col, dd, k0, k1, k2, k3, k5, mN, hC, hN, hni, T⟩ := cls_in I.mod.kin hq
  refine wpAny_Raise_call_subT (C := C) (nm := nm) (q := qn) (N := N) (bs := bs) (bm := tl) (hdct := hd') (sn := sn) (sub := sub) (ab := ab) (col := col) (dd := dd) (k0 := k0) (k1 := k1) (k2 := k2) (k3 := k3) (k5 := k5)
    PySem.F.excBase_ValueError (mN := mN) (T.hasType PySem.F.excBase_ValueError.hasBase) (I.ok.hd hc) (by rw [hs]; show (false || (backTo cpos (starEach es X.env)).any (·.1)) = false; rw [hpl]; rfl) hni (ld_glob I hg hm ⟨rfl, ?_⟩ hd)
  have hA := ha cpos pins s σ H _ I h
  rw [hs] at hA ⊢
  refine Calls.evalArgs_plain (wpAny_mono hA (fun vs s2 q => ?_) fun _ _ y => y)
  obtain ⟨xs, H2, I2, rv, hz, hE⟩ := q
  refine ⟨rfl, by rw [← rv.length]; exact hz, I2.bk _ _ hC, hN.keeps I2.bk, T.keeps I2.bk, fun h' e hx => O.xe _ _ ?_⟩
  have hin : ∀ env ∈ X.stack, ∀ b, env.frame = some b → b ∈ frs X.stack := fun env he b hb => List.mem_filterMap.mpr ⟨env, he, hb⟩
  have hfun := PySem.W.funFrames_hide I2.stack hin
  have F0 : Fly0 X.prog X.w X.stack H2 s2 e H2 { s2 with heap := h' } := ⟨rfl, I2.bare, Un.kept hx.keeps, I2.hok.kept hx.keeps, (by
    cases z : H2 e with
    | none => rfl
    | some u =>
      obtain ⟨o, eo⟩ := (I2.hok e u z).get
      rw [hx.new] at eo
      cases eo), hx.new⟩
  have t1 : ∀ b u o, H2 b = some u → h'.get? b = some o → (PySem.W.hideAll s2.heap (frs X.stack)).get? b = some o := fun b u o eb eo => by
    obtain ⟨o1, e1⟩ := (I2.hok b u eb).get
    rw [hx.keeps _ _ e1] at eo
    cases eo
    refine PySem.W.hideAll_get _ e1 fun hb => ?_
    rw [I2.stkFree b hb] at eb
    cases eb
  have t2 : ∀ b o o', s2.heap.get? b = some o → b ∉ frs X.stack → h'.get? b = some o' → (PySem.W.hideAll s2.heap (frs X.stack)).get? b = some o' := fun b o o' e1 nb eo => by
    rw [hx.keeps _ _ e1] at eo
    cases eo
    exact PySem.W.hideAll_get _ e1 nb
  refine wpAny_leaves_madeW (base := PySem.W.hideAll s2.heap (frs X.stack)) (env := X.env) (outer := X.outer) (by rw [I2.ok.frames, O.st]) O.fr (fun b o q => PySem.W.of_hideAll _ q) (by rw [← O.st]; exact hfun) hx fun h'' t fl' _ _ up => ?_
  exact ⟨e, C, H2, rfl, F0.out I2 O.ex t1 t2 fl' up, hE⟩

/-! ### a def that may raise -/
theorem Def.calE {P : Program} {w : World} {K : PySem.W.Frag} {mg : Str → Option Value} {base : Heap} {x : Str} {st : Stmt} {N ps : List Str} {k : Nat} {sp : Sp} (D : Def K mg x st) (S : FnScope N ps (defScope st))
    (hb : ∀ (kV doc pm : Value) (an : Option Addr) (cdv ct : Value) (us : List Value), us.length = ps.length → bindArgs (PySem.W.fnOf x x (defArgs st) (defBody st) (defScope st) .none kV doc pm an cdv ct) ⟨us, []⟩ = pure (ps.zip us))
    (len : ∀ vs H Q E, sp vs H Q E → vs.length = ps.length)
    (hbody : ∀ (f : Addr) (cdv : Value) (A : Around) (outer : List Env) (s : Shared) (H : Hp) (vs : List V) (Q : VK) (E : XK), Room k (A.deeper (envOfC x (defScope st) s.heap.objs.size f cdv)) → sp vs H Q E →
      ∃ t, PSs (cxOf (CXE P w) P w K mg base N x (defScope st) f cdv A outer s H E) (defBody st) t ∧ t { nx := fun _ H' => Q .non H', rt := Q } (start N vs) H) : Cal P w K mg base (CXE P w) x ps (k + 1) sp := by
  obtain ⟨f, fd, F, m⟩ := D.ex
  have b := F.binds hb
  have kp := F.kp
  obtain ⟨oc, od, kV, doc, pm, an, cdv, ct, osl, rfl, lk, hcd⟩ := F.ex
  exact ⟨f, _, fn_of lk hcd S len fun A outer s H vs Q E hr h => hbody f cdv A outer s H vs Q E hr h, b, kp, m, oc, od, osl, lk⟩
end L2

namespace L2
open PySem PySem.Spec PyProof.Rows PySem.W Builtin Builtin.Getset_descriptor
section
variable {prog : Program} {w : World} {A : Around} {E : Value → Shared → Prop} {s : Shared} {K : PySem.W.Frag} {x C : Addr} {ox : Obj}
/-- an exception of the class at C -/
def ExcAt (x C : Addr) (h : Heap) : Prop := ∃ o, h.get? x = some o ∧ o.cls = .ref C
theorem ExcAt.type {M : Model} {h : Heap} (I : ExcAt x C h) : Looks M h (typeOf (.ref x)) (.ref C) := by
  obtain ⟨o, e, c⟩ := I
  exact c ▸ (Looks.ld e).andThen .now
theorem look_data {M : Model} {h : Heap} {name : Str} {a g : Value} (X : K.In h) (ha : findIn K (.ref C) name = some (some a)) (hg : specialIn K a "__get__" = some (some g)) (ht : takesIn K a = some true) : Looks M h (Builtin.ObjectAttr.find (.ref x) (.ref C) name) (.bind g a) := by
  have l1 := looks_findIn (M := M) X ha
  have l2 : Looks M h (Builtin.ObjectAttr.getOf (some a)) (some g) := looks_specialIn X hg
  have l3 : Looks M h (Builtin.ObjectAttr.dataDescriptor? (some a) (some g)) (some (g, a)) := (looks_takesIn X ht).andThen .now
  exact l1.andThen (l2.andThen (l3.andThen (Looks.tag .now)))
theorem cls_of {R : Result → Shared → Prop} {tp : Value} (X : K.In s.heap) (I : ExcAt x C s.heap) (hm : mroIn K C (.type "object") = some true) (h : R (.ok (.ret (.ref C))) s) :
    codeAny (model prog w) A (.call (.builtin "getset_descriptor.__get__") ⟨[.builtin "object.__class__", .ref x, tp], []⟩) R s := by
  obtain ⟨h0, g0, d0, t0, o0⟩ := s
  have lt := I.type (M := model prog w)
  have lm := looks_mroIn (M := model prog w) X hm
  refine codeAny_call_builtin KF.slot_gs.plain KF.entry_gs ?_
  refine KF.slot_gs.check _ _ _ _ _ _ _ _ KF.type_class (KF.args_gs _ _ _) ?_
  unfold Builtin.«getset_descriptor.__get__» descrGet; rw [dga_obj]
  refine wpAny_bind (wpAny_pure ?_); unfold descrGetter descrCheckInstance descrNameAndClass isInstance
  simp only [KF.owner_class]; repeat lk
  refine ⟨Code.quiet_builtin _ (by decide +kernel), ?_⟩
  refine codeAny_builtin KF.entry_class ?_
  unfold Builtin.«object.__class__» shownTypeOf; repeat lk
  exact h
theorem exc_class {Q : Option Value → Shared → Prop} (X : K.In s.heap) (I : ExcAt x C s.heap) (hga : findIn K (.ref C) "__getattribute__" = some (some (.builtin "BaseException.__getattribute__"))) (hgx : findIn K (.ref C) "__getattr__" = some none)
    (hfa : findIn K (.ref C) "__class__" = some (some (.builtin "object.__class__"))) (hfg : specialIn K (.builtin "object.__class__") "__get__" = some (some (.builtin "getset_descriptor.__get__"))) (hft : takesIn K (.builtin "object.__class__") = some true) (hmo : mroIn K C (.type "object") = some true) (hmb : mroIn K C (.type "BaseException") = some true)
    (h : Q (some (.ref C)) { s with toks := s.toks + 1 }) : wpAny (model prog w) A (getAttr? (.ref x) "__class__") Q E s := by
  obtain ⟨hh, g, d, t, os⟩ := s
  have L0 := I.type (M := model prog w)
  have L1 := looks_findIn (M := model prog w) X hga
  have L2 := looks_findIn (M := model prog w) X hgx
  have L3 := look_data (M := model prog w) (x := x) X hfa hfg hft
  have L4 := looks_mroIn (M := model prog w) X hmb
  unfold getAttr? getAttrBy? getAttrBy
  refine wpAny_bind (wpAny_mkText (wpAny_bind (wpAny_attempt (wpAny_holding (wpAny_bind (L0.at (wpAny_bind (L1.at ?_))))))))
  dsimp only
  rw [if_neg (by simp)]
  unfold getAttrByItsOwn hookBefore
  rw [if_pos (show onTheHeap (Value.ref C) = true from rfl)]
  refine wpAny_bind (L2.at ?_)
  refine wpAny_bind (wpAny_attempt (wpAny_holding ?_))
  unfold callGetattribute
  rw [if_neg (by simp)]
  unfold boundAndCalled
  refine wpAny_bind (wpAny_of_eq (PySem.F.excAttr_ValueError.ga.bind (.ref x)) ?_)
  refine wpAny_call (codeAny_call_builtin PySem.F.excAttr_ValueError.ga.plain PySem.F.entry_bexc_ga ?_)
  have hk : builtinKind "BaseException.__getattribute__" = some .slot := by decide +kernel
  have hsp : splitId "BaseException.__getattribute__" = some ("BaseException", "__getattribute__") := by decide +kernel
  have ha := PySem.F.args_bexc_ga (.ref x) (.str "__class__" t)
  show wpAny _ _ (checkBuiltinCall "BaseException.__getattribute__" ⟨[.ref x, .str "__class__" t], []⟩) _ _ _
  simp only [checkBuiltinCall, hk, hsp]
  have LI : Looks (model prog w) hh (isInstance (.ref x) (.type "BaseException")) true := L0.andThen L4
  refine wpAny_bind (LI.at ?_)
  simp only [Bool.not_true, Bool.false_eq_true, if_false]
  refine wpAny_of_eq ha ?_
  show wpAny _ _ (Builtin.«object.__getattribute__» ⟨[.ref x, .str "__class__" t], []⟩) _ _ _
  unfold Builtin.«object.__getattribute__»
  refine wpAny_bind (wpAny_of_eq (a := (Value.ref x, [Value.str "__class__" t])) rfl ?_)
  refine wpAny_bind (wpAny_of_eq (a := Str.ofString "__class__") rfl ?_)
  refine wpAny_bind (L0.at ?_)
  refine wpAny_bind (L3.at ?_)
  dsimp only
  show wpAny _ _ (holding [Value.builtin "object.__class__"] (call (.builtin "getset_descriptor.__get__") [.builtin "object.__class__", .ref x, .ref C]) >>= ret) _ _ _
  refine wpAny_bind (wpAny_holding (wpAny_call (cls_of X I hmo ?_)))
  refine wpAny_pure ?_
  exact wpAny_pure (wpAny_pure h)
theorem kitx_exc (hcl : (clsIn K C).isSome = true) (hga : findIn K (.ref C) "__getattribute__" = some (some (.builtin "BaseException.__getattribute__"))) (hgx : findIn K (.ref C) "__getattr__" = some none)
    (hfa : findIn K (.ref C) "__class__" = some (some (.builtin "object.__class__"))) (hfg : specialIn K (.builtin "object.__class__") "__get__" = some (some (.builtin "getset_descriptor.__get__"))) (hft : takesIn K (.builtin "object.__class__") = some true) (hmo : mroIn K C (.type "object") = some true) (hmb : mroIn K C (.type "BaseException") = some true) :
    KitX K (.ref x) (.ref C) (ExcAt x C) where
  ty := fun _ _ _ I => I.type
  it := fun _ _ X _ => by
    unfold clsIn at hcl
    split at hcl
    next found =>
      intro A' Q' E' s' k q
      unfold isType loadHead
      exact wpAny_bind (wpAny_loadPart (k _ _ (X _ _ found)) (wpAny_pure q))
    next => cases hcl
  ne := fun h tp dd its n sl X htp => by
    refine Bool.eq_false_iff.mpr fun q => ?_
    obtain rfl : C = tp := Value.ref.inj (beq_iff_eq.mp q)
    unfold clsIn at hcl
    split at hcl
    next found => cases (X _ _ found).symm.trans htp
    next => cases hcl
  ca := fun X I k => exc_class X I hga hgx hfa hfg hft hmo hmb k
end
end L2

/-! EXCEPTIONS, three: try: x = f(..) except C as e: .. -/
namespace L2
open PySem PySem.Spec PyProof.Rows
/-- within an except suite -/
def Cx.markd (X : Cx) (x : Addr) (E : Value → Shared → Prop) : Cx := { X with A := X.A.mark (some (.ref x)), calm := false, xe := E }
def ExcO (x C : Addr) : HO := .ext (ExcAt x C)
section
variable {X : Cx} {pins : List (Addr × Obj)} {σ : St} {H1 H : Hp} {s1 s : Shared} {x C : Addr}
theorem Inv.markd (I : Inv X pins σ H s) (x : Addr) (E : Value → Shared → Prop) : Inv (X.markd x E) pins σ H s :=
  ⟨⟨I.ok.mod, I.ok.kind, I.ok.glob, I.ok.blt, I.ok.above, I.ok.inj, I.ok.has, I.ok.cab, fun h => absurd (show false = true from h) Bool.false_ne_true, I.ok.frames, I.ok.stk, I.ok.exf, I.ok.bs, I.ok.bsz, I.ok.noex, I.ok.exfs, I.ok.funs, I.ok.frf⟩, I.os, I.bare, I.base, I.loc, I.cell, I.free, I.freeC, I.pin, I.hok, I.len⟩
theorem Inv.unmark {E : Value → Shared → Prop} (O : X.Ok) (I : Inv (X.markd x E) pins σ H s) : Inv X pins σ H s := ⟨O, I.os, I.bare, I.base, I.loc, I.cell, I.free, I.freeC, I.pin, I.hok, I.len⟩
/-- an exception has landed in this body -/
theorem Fly.land (I : Inv X pins σ H1 s1) {H' : Hp} {s' : Shared} (F : Fly X.prog X.w X.stack H1 s1 x C H' s') {h B : Heap} (t1 : ∀ b u o, H' b = some u → s'.heap.get? b = some o → B.get? b = some o)
    (t2 : ∀ b o o', s1.heap.get? b = some o → b ∉ frs X.stack → s'.heap.get? b = some o' → B.get? b = some o') (st : B.StaysIn h) (up : s'.heap.UpToSlots h) : Inv X pins σ H' { s' with heap := h } := by
  have slot : ∀ b o, s1.heap.get? b = some o → H1 b = none → b ∈ frs X.stack → ∃ sl, h.get? b = some { o with slots := sl } := fun b o e n hb => by
    obtain ⟨sl, e2⟩ := F.un.slot b o e n hb (by simp)
    obtain ⟨_, o0, ho0, hd⟩ := I.stack.mem hb
    rw [e] at ho0
    cases ho0
    obtain ⟨sl3, e3⟩ := up b _ e2 fun vs q => hd vs q
    exact ⟨sl3, e3⟩
  have U : Un (frs X.stack) [] H1 H' s1.heap h := ⟨fun b o e n hb hx => st b o (t2 b o o e hb (F.un.keep b o e n hb hx)), fun b o e n hb _ => slot b o e n hb, fun b o e n hx => F.un.free b o e n hx, fun b o e hx => by
      by_cases hb : b ∈ frs X.stack
      · obtain ⟨sl, q⟩ := slot b o e (I.stkFree b hb) hb
        exact ⟨_, q⟩
      · obtain ⟨o', q⟩ := F.un.there b o e hx
        exact ⟨o', st b o' (t2 b o o' e hb q)⟩, F.un.tups, F.un.frzs, F.un.tbls⟩
  exact I.call' (s' := { s' with heap := h }) (ch := []) F.os U (F.hok.keptT fun b u o e q => st b o (t1 b u o e q)) F.bare fun b z => absurd z (by simp)
/-- an object that was not followed is followed from here on -/
theorem Inv.track {a : Addr} {o : HO} (I : Inv X pins σ H s) (hn : H a = none) (h0 : X.s₀.heap.get? a = none) (hL : a ≠ X.env.locals) (hc : ∀ y c, X.env.cells.lookup y = some c → c ≠ a) (hp : ∀ p ∈ X.pn ++ pins, p.1 ≠ a) (ho : ObjOk X.prog X.w (upd H a o) s.heap a o) : Inv X pins σ (upd H a o) s := by
  have ne : ∀ b u, H b = some u → b ≠ a := fun b u e z => by rw [z, hn] at e; cases e
  have old : ∀ b u, X.s₀.heap.get? b = some u → b ≠ a := fun b u e z => by rw [z, h0] at e; cases e
  refine ⟨I.ok, I.os, I.bare, ⟨I.base.keep, I.base.slot, fun b u e n hx => by rw [upd_ne (old b u e)]; exact I.base.free b u e n hx, I.base.there, fun b xs e => ?_, fun b q u e => ?_, fun b ps e => ?_⟩, I.loc, I.cell, by rw [upd_ne (Ne.symm hL)]; exact I.free, fun y c e => by rw [upd_ne (hc y c e)]; exact I.freeC y c e, fun p q => ?_, fun b u e => ?_, I.len⟩
  · have z := I.base.tups b xs e
    rw [upd_ne (ne _ _ z)]
    exact z
  · have z := I.base.frzs b q u e
    rw [upd_ne (ne _ _ z)]
    exact z
  · obtain ⟨m, z⟩ := I.base.tbls b ps e
    exact ⟨m, by rw [upd_ne (ne _ _ z)]; exact z⟩
  · obtain ⟨z1, z2, z3⟩ := I.pin p q
    exact ⟨z1, by rw [upd_ne (hp p q)]; exact z2, z3⟩
  · by_cases hb : b = a
    · subst hb
      rw [upd_same] at e
      cases e
      exact ho
    · rw [upd_ne hb] at e
      exact (I.hok b u e).stay (fun _ _ _ q => q) (fun c q => by rw [upd_ne (ne _ _ q)]; exact q) fun c xs q => by rw [upd_ne (ne _ _ q)]; exact q
/-- the callee runs; its exceptions come to E' -/
theorem run_try {E' : Value → Shared → Prop} {fname : Str} {ps : List Str} {j k : Nat} {sp : Sp} {Eb : XK} {Q : VK} {e : Expr} {es : List Expr} {t : TA} {p pos : Pos} (Cc : Cal X.prog X.w X.K X.mg X.base (CXE X.prog X.w) fname ps j sp) (hr : Room k X.A) (hj : j ≤ k) (hg : Gl X fname) (ha : PA X.nox (e :: es) t)
    (I : Inv X pins σ H s) (h : t σ H fun vs H2 => sp (vs ++ []) H2 Q Eb) (hE : ∀ H2 s2 e' s', Inv X pins σ H2 s2 → CXE X.prog X.w X.stack H2 s2 Eb e' s' → E' e' s') (hdb : (fname == ("__debug__" : Str)) = false)
    (he : starEach (e :: es) X.env = (false, eval e X.env) :: starEach es X.env) (hpl : (backTo pos (starEach es X.env)).any (·.1) = false) : wpAny (model X.prog X.w) X.A (eval (.Call (.Name fname p) (e :: es) [] pos) X.env) (EP X pins σ Q) E' s := by
  obtain ⟨f, fd, F, b, kp, m, _⟩ := Cc.ex
  refine wpAny_Call_Name_kw (ld_glob I hg m ?_ hdb)
  refine PySem.W.callWith_K (h₀ := X.base) I.ok.mod.kin kp (wpAny_mono (ha pos pins s σ H _ (I.wish _) h) (fun us s1 q => ?_) fun _ _ z => False.elim z) he hpl
  obtain ⟨vs, H2, I1', r, q⟩ := q
  have I1 := I1'.unwish
  refine ⟨I1.kIn, ?_⟩
  have r2 : Vals (vs ++ []) (us ++ []) := r.append .nil
  have hl : (us ++ []).length = ps.length := by rw [← r2.length]; exact F.len _ _ _ _ q
  refine wpAny_call (codeAny_mono (F.run X.A X.stack s1 H2 ⟨us, []⟩ (us ++ []) (vs ++ []) Q Eb (hr.mono hj) I1.env0 (b s1 us I1.kIn hl) r2 q) fun r s' hq => ?_)
  cases r with
  | error e' => exact hE H2 s1 e' s' I1 hq
  | ok fl =>
    cases fl with
    | ret u => exact I1.after hq
    | next => exact False.elim hq
    | brk => exact False.elim hq
    | cont => exact False.elim hq
/-- a name has gone -/
theorem Inv.gone {h' : Heap} {t' : Nat} {m : Nat} {n : Str} {mm : Str → Option Value} {v : Option Value} (I : Inv X pins σ H s) (hN : X.N.Nodup) (hn : X.N[m]? = some n) (hm : s.heap.Ns X.env.locals mm) (hm' : h'.Ns X.env.locals (fun y => if y = n then v else mm y)) (sb : Heap.SameBut X.env.locals s.heap h') :
    Inv X pins (σ.set m none) H { s with heap := h', toks := t' } := by
  have kp : ∀ b o, b ≠ X.env.locals → s.heap.get? b = some o → h'.get? b = some o := fun b o hb e => (sb.2 b hb).trans e
  have nl : ∀ b o, X.s₀.heap.get? b = some o → b ≠ X.env.locals := fun b o e => Nat.ne_of_lt (Nat.lt_of_lt_of_le (Heap.lt_size e) I.ok.above)
  have nt : ∀ b u, H b = some u → b ≠ X.env.locals := fun b u e z => by rw [z, I.free] at e; cases e
  refine ⟨I.ok, I.os, I.bare, ⟨fun b o e n hb hx => kp b o (nl b o e) (I.base.keep b o e n hb hx), fun b o e n hb hx => ?_, I.base.free, fun b o e hx => ?_, I.base.tups, I.base.frzs, I.base.tbls⟩, ⟨_, hm', fun j y v' e1 e2 e3 => ?_⟩, fun y c e => ?_, I.free, I.freeC, fun p hp => ?_, I.hok.keptT fun b u o e q => kp b o (nt b u e) q, by rw [List.length_set]; exact I.len⟩
  · obtain ⟨sl, q⟩ := I.base.slot b o e n hb hx
    exact ⟨sl, kp b _ (nl b o e) q⟩
  · obtain ⟨o', q⟩ := I.base.there b o e hx
    exact ⟨o', kp b _ (nl b o e) q⟩
  · by_cases hj : m = j
    · subst hj
      rw [List.getElem?_set] at e2
      split at e2
      · split at e2 <;> cases e2
      · rename_i z; exact absurd rfl z
    · rw [List.getElem?_set_ne hj] at e2
      obtain ⟨m0, hm0, hl⟩ := I.loc
      obtain rfl : m0 = mm := ns_fun hm0 hm
      obtain ⟨u, r, l⟩ := hl j y v' e1 e2 e3
      refine ⟨u, r, ?_⟩
      rcases l with ⟨k, e⟩ | ⟨k, c, e, oc, h3, h4⟩
      · refine .inl ⟨k, ?_⟩
        have : y ≠ n := fun z => hj (nodup_ix hN (z ▸ hn) e1)
        simp [this, e]
      · exact .inr ⟨k, c, e, oc, kp _ _ (I.cne y c e) h3, h4⟩
  · obtain ⟨v', oc, h3, h4⟩ := I.cell y c e
    exact ⟨v', oc, kp _ _ (I.cne y c e) h3, h4⟩
  · obtain ⟨z1, z2, z3, z4⟩ := I.pin p hp
    exact ⟨kp _ _ z3 z1, z2, z3, z4⟩
/-- the reading: Eb is what the callee's exceptions come to -/
def tTry (K : PySem.W.Frag) (Y : Addr) (sp : Sp) (i m : Nat) (t : TA) (ts : TS) : TS := fun D σ H => ∃ Eb : XK, (t σ H fun vs H2 => sp (vs ++ []) H2 (fun v H3 => D.nx (σ.set i (some v)) H3) Eb) ∧
  ∀ (C : Value) (H2 : Hp), Eb C none H2 → ∃ Ca, C = .ref Ca ∧ PySem.W.exmOne K (.ref Ca) (.ref Y) = some true ∧ ∀ x, H2 x = none →
    ts { D with nx := fun σ' H' => D.nx (σ'.set m none) H', bk := fun σ' H' => D.bk (σ'.set m none) H', ct := fun σ' H' => D.ct (σ'.set m none) H' } (σ.set m (some (.ref x))) (upd H2 x (ExcO x Ca))
end

/-! ### a call within an except suite: the callee raises nothing and walks nothing -/
structure RoomN (k : Nat) (A : Around) : Prop where
  dp : A.depth + 3 * k + 5 < recursionLimit
  un : A.units + 16 * k + 200 < cLine
theorem Room.toN {k : Nat} {A : Around} (r : Room k A) (h : Option Value) : RoomN k (A.mark h) := ⟨r.dp, r.un⟩
def cxN (P : Program) (w : World) (K : PySem.W.Frag) (mg : Str → Option Value) (base : Heap) (N : List Str) (qual : Str) (scope : Scope) (f : Addr) (cd : Value) (A : Around) (outer : List Env) (s : Shared) (H : Hp) : Cx :=
  { cxOf CX0 P w K mg base N qual scope f cd A outer s H E0 with calm := false, xe := fun _ _ => False }
structure CalN (P : Program) (w : World) (K : PySem.W.Frag) (mg : Str → Option Value) (base : Heap) (x : Str) (ps : List Str) (k : Nat) (sp : Sp) : Prop where
  ex : ∃ (f : Addr) (fd : FuncData), (∀ vs H Q E, sp vs H Q E → vs.length = ps.length) ∧ (∀ (A : Around) (outer : List Env) (s : Shared) (H : Hp) (args : Args) (us : List Value) (vs : List V) (Q : VK), RoomN k A → Env0 P w K mg base A outer s H → BindsTo s fd args (ps.zip us) → Vals vs us → sp vs H Q E0 →
    codeAny (model P w) A (.call (.ref f) args) (CR CX0 outer P w H s Q E0) s) ∧ Binds K fd ps [] ∧ PySem.W.keepIn K (.ref f) = true ∧ mg x = some (.ref f)
theorem Def.calN {P : Program} {w : World} {K : PySem.W.Frag} {mg : Str → Option Value} {base : Heap} {x : Str} {st : Stmt} {N ps : List Str} {k : Nat} {sp : Sp} (D : Def K mg x st) (S : FnScope N ps (defScope st))
    (hb : ∀ (kV doc pm : Value) (an : Option Addr) (cdv ct : Value) (us : List Value), us.length = ps.length → bindArgs (PySem.W.fnOf x x (defArgs st) (defBody st) (defScope st) .none kV doc pm an cdv ct) ⟨us, []⟩ = pure (ps.zip us))
    (len : ∀ vs H Q E, sp vs H Q E → vs.length = ps.length)
    (hbody : ∀ (f : Addr) (cdv : Value) (A : Around) (outer : List Env) (s : Shared) (H : Hp) (vs : List V) (Q : VK), RoomN k (A.deeper (envOfC x (defScope st) s.heap.objs.size f cdv)) → sp vs H Q E0 →
      ∃ t, PSs (cxN P w K mg base N x (defScope st) f cdv A outer s H) (defBody st) t ∧ t { nx := fun _ H' => Q .non H', rt := Q } (start N vs) H) : CalN P w K mg base x ps (k + 1) sp := by
  obtain ⟨f, fd, F, m⟩ := D.ex
  have b := F.binds hb
  have kp := F.kp
  obtain ⟨oc, od, kV, doc, pm, an, cdv, ct, osl, rfl, lk, hcd⟩ := F.ex
  refine ⟨f, _, len, fun A outer s H args us vs Q hr e0 hbd r hsp => ?_, b, kp, m⟩
  have hl := len _ _ _ _ hsp
  have KX : K.In s.heap := e0.mod.kin.keeps fun b o e => (e0.bs b o e).1
  have lim : s.heap.NoLimit := e0.mod.nolimit.keeps fun b o e => (e0.bs b o e).1
  have hkind : ∀ y ∈ ps.zip us, (defScope st).names.lookup y.1 = some .local ∨ ((defScope st).names.lookup y.1 = some .cell ∧ ((cellsFrom (s.heap.objs.size + 1) (defScope st).names []).lookup y.1).isSome = true) := fun ⟨n, v⟩ hy => by
    rcases S.par n (List.of_mem_zip hy).1 with q | q
    · exact .inl q
    · exact .inr ⟨q, PySem.W.cellsFrom_some _ _ _ (.inl q)⟩
  refine codeAny_call_function (by have := hr.dp; omega) (KX _ _ lk) rfl S.co S.gen rfl (PySem.W.codeRec_of KX hcd) (hbd _ _ _ _ ?_)
  refine wpAny_newFunctionEnv_cells S.kind hkind fun env he s1 x1 => ?_
  subst he
  refine ⟨lim.keeps x1.toInCall.keep, codeAny_func ?_⟩
  obtain ⟨t, ht, hq⟩ := hbody f cdv A outer s H vs Q ⟨by have := hr.dp; show A.depth + 1 + 3 * k + 5 < _; omega, by have := hr.un; show A.units + 3 + 16 * k + 200 < _; omega⟩ hsp
  have e1 : Env0 P w K mg base { A with handled := none } outer s H := ⟨e0.frames, e0.mod, e0.bs, e0.bsz, e0.funs, e0.frf, e0.hok, e0.bare⟩
  have I0 := inv_start (CX := CX0) (qual := x) (f := f) (cd := cdv) (E := E0) S rfl e1 hl r x1
  have I : Inv (cxN P w K mg base N x (defScope st) f cdv A outer s H) [] (start N vs) H s1 :=
    ⟨⟨I0.ok.mod, I0.ok.kind, I0.ok.glob, I0.ok.blt, I0.ok.above, I0.ok.inj, I0.ok.has, I0.ok.cab, fun h => absurd (show false = true from h) Bool.false_ne_true, Around.frames_deeper e0.frames, I0.ok.stk, I0.ok.exf, I0.ok.bs, I0.ok.bsz, I0.ok.noex, I0.ok.exfs, I0.ok.funs, I0.ok.frf⟩, I0.os, I0.bare, I0.base, I0.loc, I0.cell, I0.free, I0.freeC, I0.pin, I0.hok, I0.len⟩
  refine wpAny_mono (ht [] s1 (start N vs) H _ I hq) (fun fl s' hs => ?_) fun _ _ hs => False.elim hs
  cases fl with
  | ret u =>
    obtain ⟨v, σ', H', J, rv, q⟩ := hs
    exact ⟨v, H', J.os, J.bare, J.base, J.hok, rv, q⟩
  | next =>
    obtain ⟨σ', H', J, q⟩ := hs
    exact ⟨.non, H', J.os, J.bare, J.base, J.hok, rfl, q⟩
  | brk =>
    obtain ⟨_, _, _, q⟩ := hs
    exact False.elim q
  | cont =>
    obtain ⟨_, _, _, q⟩ := hs
    exact False.elim q
theorem pe_calN {X : Cx} {x : Str} {ps : List Str} {j k : Nat} {sp : Sp} {e : Expr} {es : List Expr} {t : TA} {p pos : Pos} (C : CalN X.prog X.w X.K X.mg X.base x ps j sp) (hr : RoomN k X.A) (ha : PA X (e :: es) t)
    (hj : j ≤ k := by decide) (hg : Gl X x := by rfl) (hdb : (x == ("__debug__" : Str)) = false := by decide) (he : starEach (e :: es) X.env = (false, eval e X.env) :: starEach es X.env := by rfl) (hpl : (backTo pos (starEach es X.env)).any (·.1) = false := by rfl) :
    PE X (.Call (.Name x p) (e :: es) [] pos) (tCall sp [] E0 t) := by
  obtain ⟨f, fd, len, F, b, kp, m⟩ := C.ex
  intro pins s σ H Q I h
  refine wpAny_Call_Name_kw (ld_glob I hg m ?_ hdb)
  refine PySem.W.callWith_K (h₀ := X.base) I.ok.mod.kin kp (thn (ha pos pins s σ H _ I h) fun us s1 ⟨vs, H1, I1, r, q⟩ => ⟨I1.kIn, ?_⟩) he hpl
  have r2 : Vals (vs ++ []) (us ++ []) := r.append .nil
  have hl : (us ++ []).length = ps.length := by rw [← r2.length]; exact len _ _ _ _ q
  refine wpAny_call (codeAny_mono (F X.A X.stack s1 H1 ⟨us, []⟩ (us ++ []) (vs ++ []) Q ⟨by have := hr.dp; omega, by have := hr.un; omega⟩ I1.env0 (b s1 us I1.kIn hl) r2 q) fun r s' hq => ?_)
  cases r with
  | error e' => exact False.elim hq
  | ok fl =>
    cases fl with
    | ret u => exact I1.after hq
    | next => exact False.elim hq
    | brk => exact False.elim hq
    | cont => exact False.elim hq
end L2

/-! COMPREHENSIONS of one clause, over the layer, where no exception leaves. -/
namespace L2
open PySem PySem.Spec PyProof.Rows
/-- the block's context: its names are the clause's own and outer ones by their slots -/
def compCx (X : Cx) (x : Str) (slots : List Nat) (scope : Scope) (cl : List (Str × Addr)) (C : Addr) (s2 : Shared) (H2 : Hp) (fp : List Addr) (pn : List (Addr × Obj)) : Cx :=
  { X with N := x :: slots.map (fun k => X.N.getD k ""), s₀ := s2, H₀ := H2, env := compEnvC scope cl C X.env, outer := X.stack, stack := X.stack, ex := fp, fn := fun _ => false, pn := pn }
def outs (σ : St) (slots : List Nat) : St := slots.map fun k => (σ[k]?).getD none
def SlotsOk (X : Cx) (scope : Scope) : List Nat → Prop
  | [] => True
  | k :: r => (X.env.kindOf (X.N.getD k "") = some .cell ∧ (relabel scope X.env).names.lookup (X.N.getD k "") = some .cell) ∧ SlotsOk X scope r
theorem SlotsOk.mem {X : Cx} {scope : Scope} : ∀ {slots : List Nat}, SlotsOk X scope slots → ∀ k ∈ slots, X.env.kindOf (X.N.getD k "") = some .cell ∧ (relabel scope X.env).names.lookup (X.N.getD k "") = some .cell
  | _ :: _, h, k, hk => by
    rcases List.mem_cons.mp hk with rfl | hk
    · exact h.1
    · exact SlotsOk.mem h.2 k hk
def CellsIn (cl cells : List (Str × Addr)) : Prop := ∀ y c, cl.lookup y = some c → cells.lookup y = some c
theorem cells_nil {cells : List (Str × Addr)} : CellsIn [] cells := fun _ _ h => nomatch h
theorem cells_cons {cl cells : List (Str × Addr)} {a : Str} {c : Addr} (h : cells.lookup a = some c) (t : CellsIn cl cells) : CellsIn ((a, c) :: cl) cells := fun y d q => by
  rw [List.lookup_cons] at q
  cases e : y == a with
  | true =>
    rw [e] at q
    cases q
    rw [beq_iff_eq.mp e]
    exact h
  | false =>
    rw [e] at q
    exact t y d q
/-- every name that is not the clause's own has its cell -/
def HasCells (cl : List (Str × Addr)) (names : List (Str × NameKind)) : Prop := ∀ y, (names.lookup y = some .cell ∨ names.lookup y = some .free) → ∃ c, cl.lookup y = some c
theorem has_nil {cl : List (Str × Addr)} : HasCells cl [] := fun _ h => by rcases h with h | h <;> cases h
theorem has_cons {cl : List (Str × Addr)} {a : Str} {k : NameKind} {r : List (Str × NameKind)} (h : (k = .cell ∨ k = .free) → ∃ c, cl.lookup a = some c) (t : HasCells cl r) : HasCells cl ((a, k) :: r) := fun y q => by
  rw [List.lookup_cons] at q
  cases e : y == a with
  | true =>
    rw [e] at q
    rw [beq_iff_eq.mp e]
    refine h ?_
    rcases q with q | q
    · exact .inl (Option.some.inj q)
    · exact .inr (Option.some.inj q)
  | false =>
    rw [e] at q
    exact t y q
/-- one turn of the clause: the tests, then the item -/
abbrev TTn := St → Hp → (Option V → Hp → Prop) → Prop
def PTn (X : Cx) (ifs : List Expr) (elt : Expr) (t : TTn) : Prop :=
  ∀ (pins : List (Addr × Obj)) (s : Shared) (σ : St) (H : Hp) (R : Option V → Hp → Prop), Inv X pins σ H s → t σ H R →
    wpAny (model X.prog X.w) X.A (forIn ifs true fun c r => if r = true then do let ok ← isTrue c X.env (eval c X.env); pure (ForInStep.yield ok) else pure (ForInStep.yield r))
      (fun ok s1 => if ok = true then wpAny (model X.prog X.w) X.A (eval elt X.env) (EP X pins σ fun y H' => R (some y) H') X.xe s1 else ∃ H', Inv X pins σ H' s1 ∧ R none H') X.xe s
theorem ptn0 {X : Cx} {elt : Expr} {te : TE} (he : PE X elt te) : PTn X [] elt (fun σ H R => te σ H fun y H' => R (some y) H') := fun pins s σ H R I h =>
  wpAny_tests_nil (by
    rw [if_pos rfl]
    exact he pins s σ H _ I h)
theorem ptn1 {X : Cx} {elt c : Expr} {te : TE} {tc : TT} (hc : PT X c tc) (he : PE X elt te) : PTn X [c] elt (fun σ H R => tc σ H fun b H1 => if b = true then te σ H1 fun y H' => R (some y) H' else R none H1) := fun pins s σ H R I h =>
  wpAny_tests_one (thn (hc pins s σ H _ I h) fun b s1 ⟨H1, I1, q⟩ => by
    cases b with
    | true =>
      rw [if_pos rfl]
      rw [if_pos rfl] at q
      exact he pins s1 σ H1 _ I1 q
    | false =>
      rw [if_neg Bool.false_ne_true]
      rw [if_neg Bool.false_ne_true] at q
      exact ⟨H1, I1, q⟩)
/-- the reading of a comprehension: n turns at most; W what holds ahead of turn i with ys so far -/
def tComp (slots : List Nat) (wi : TI) (tt : TTn) : TE := fun σ H Q => wi σ H fun J H1 => ∃ (n : Nat) (W : Nat → List V → Hp → Prop), n ≤ 1000000 ∧ W 0 [] H1 ∧
  (∀ i ys H', i < n → W i ys H' → J.go i H' ∧ ∀ v H2, J.yld i H' v H2 → tt (some v :: outs σ slots) H2 fun y H3 => match y with | some y => W (i + 1) (ys ++ [y]) H3 | none => W (i + 1) ys H3) ∧
  (∀ ys H', W n ys H' → J.stop n H' ∧ ∀ D, H' D = none → Q (.ref D) (upd H' D (.lst ys)))
section
variable {X : Cx} {elt iter : Expr} {ifs : List Expr} {x : Str} {px pos : Pos} {scope : Scope} {cl : List (Str × Addr)} {slots : List Nat} {wi : TI} {tt : TTn}
theorem comp_cx {pins : List (Addr × Obj)} {σ : St} {H2 : Hp} {s2 : Shared} {fp : List Addr} {h1 : Heap} {tk : Nat} {m : Str → Option Value} {C : Addr} (I2 : Inv X pins σ H2 s2) (hkind : scope.kind = .function) (hin : CellsIn cl X.env.cells) (hhas : HasCells cl (relabel scope X.env).names) (hsl : SlotsOk X scope slots)
    (f2 : ∀ b ∈ fp, FpOk X pins H2 b) (hfs : ∀ b ∈ fp, b < s2.heap.objs.size) (hC : s2.heap.objs.size < C) (hnC : h1.Ns C m) (k : ∀ b o, s2.heap.get? b = some o → h1.get? b = some o) :
    Inv (compCx X x slots scope cl C s2 H2 fp (X.pn ++ pins)) [] (none :: outs σ slots) H2 { s2 with heap := h1, toks := tk } := by
  have fsub : ∀ b, b ∈ frs X.stack → b = X.env.locals ∨ b ∈ X.fs := fun b hb => by
    rcases List.mem_cons.mp (I2.stkSub b hb) with z | z
    · exact .inl z
    · exact .inr z
  have ncl : ∀ y c, cl.lookup y = some c → c < s2.heap.objs.size := fun y c e => by
    obtain ⟨v, q⟩ := I2.cell y c (hin y c e)
    exact q.lt
  refine ⟨⟨I2.ok.mod, hkind, I2.ok.glob, I2.ok.blt, Nat.le_of_lt hC, fun y z c e1 e2 => I2.ok.inj y z c (hin y c e1) (hin z c e2), fun y hy => hhas y hy, fun y c hf _ => (nomatch (show false = true from hf)), I2.ok.hd, I2.ok.frames, .inl rfl, fun b hb => ⟨?_, fun y c e z => ?_⟩, I2.bs, Nat.le_trans I2.ok.bsz I2.sz, fun b o e hb => ?_, fun b hb z => ?_, I2.stack, I2.stkFree⟩,
    rfl, I2.bare, Un.kept k, ⟨m, hnC, fun i y v e1 e2 e3 => ?_⟩, fun y c e => ?_, I2.hok.fresh (Nat.le_of_lt hC), fun y c e => I2.freeC y c (hin y c e), fun p hp => ?_, I2.hok.kept k, ?_⟩
  · exact Nat.ne_of_lt (Nat.lt_trans (hfs b hb) hC)
  · exact (f2 b hb).2.2.2.2.1 y c (hin y c e) z
  · have q := (f2 b hb).2.2.2.1
    rcases q with q | q
    · exact I2.ok.noex b o e q
    · exact absurd (Nat.lt_of_lt_of_le (Heap.lt_size e) I2.ok.bsz) (Nat.not_lt.mpr q)
  · rcases fsub b z with z | z
    · exact (f2 b hb).2.1 z
    · exact (f2 b hb).2.2.1 z
  · cases i with
    | zero => cases e2
    | succ j =>
      have e1' : (slots.map (fun k => X.N.getD k ""))[j]? = some y := e1
      have e2' : (outs σ slots)[j]? = some (some v) := e2
      unfold outs at e2'
      rw [List.getElem?_map] at e1' e2'
      cases hk : slots[j]? with
      | none => rw [hk] at e1'; cases e1'
      | some q =>
        rw [hk] at e1' e2'
        have y1 : X.N.getD q "" = y := Option.some.inj e1'
        have y2 : (σ[q]?).getD none = some v := Option.some.inj e2'
        have y3 : σ[q]? = some (some v) := by
          cases z : σ[q]? with
          | none => rw [z] at y2; cases y2
          | some o => rw [z] at y2; exact congrArg some y2
        have ql : q < X.N.length := by
          rw [← I2.len]
          exact (List.getElem?_eq_some_iff.mp y3).1
        have y4 : X.N[q]? = some y := by
          rw [← y1, List.getD_eq_getElem?_getD, List.getElem?_eq_getElem ql]
          rfl
        obtain ⟨a1, a2⟩ := hsl.mem q (List.mem_of_getElem? hk)
        rw [y1] at a1 a2
        obtain ⟨m0, _, hl⟩ := I2.loc
        obtain ⟨u, r, l⟩ := hl q y v y4 y3 (.inr (.inl a1))
        refine ⟨u, r, .inr ⟨.inl a2, ?_⟩⟩
        rcases l with ⟨kk, _⟩ | ⟨_, c, ec, ic⟩
        · rw [a1] at kk; cases kk
        · obtain ⟨c', ec'⟩ := hhas y (.inl a2)
          have z := hin y c' ec'
          rw [ec] at z
          cases z
          obtain ⟨oc, h3, h4⟩ := ic
          exact ⟨c, ec', oc, k _ _ h3, h4⟩
  · obtain ⟨v, oc, h3, h4⟩ := I2.cell y c (hin y c e)
    exact ⟨v, oc, k _ _ h3, h4⟩
  · have hp' : p ∈ X.pn ++ pins := by
      have z : p ∈ (X.pn ++ pins) ++ [] := hp
      rw [List.append_nil] at z
      exact z
    obtain ⟨q1, q2, q3, q4, q5⟩ := I2.pin p hp'
    refine ⟨k _ _ q1, q2, Nat.ne_of_lt (Nat.lt_trans (Heap.lt_size q1) hC), fun z => ?_, q5⟩
    rcases fsub _ z with z | z
    · exact q3 z
    · exact q4 z
  · show (none :: outs σ slots).length = (x :: slots.map (fun k => X.N.getD k "")).length
    unfold outs
    simp
/-- from the block back to the body -/
theorem comp_back {pins ps : List (Addr × Obj)} {σ σc : St} {H2 H' : Hp} {s2 s' : Shared} {fp : List Addr} {C D : Addr} {pn : List (Addr × Obj)} {h'' : Heap} {ys : List V} {its : List Value} {n : Nat} (I2 : Inv X pins σ H2 s2) (J : Inv (compCx X x slots scope cl C s2 H2 fp pn) ps σc H' s')
    (f2 : ∀ b ∈ fp, FpOk X pins H2 b) (hC : s2.heap.objs.size < C) (hD : s2.heap.objs.size ≤ D) (hDC : D ≠ C) (hs : Heap.SameBut C s'.heap h'') (hf : H' D = none) (hv : Vals ys its) (hz : ys.length ≤ sizeLine)
    (eD : s'.heap.get? D = some { cls := .type "list", data := .seq its.toArray n }) : Inv X pins σ (upd H' D (.lst ys)) { s' with heap := h'' } := by
  have nC : H' C = none := J.free
  have other : ∀ b o, b ≠ C → s'.heap.get? b = some o → h''.get? b = some o := fun b o hb e => (hs.2 b hb).trans e
  have hok : HOk X.prog X.w H' h'' := J.hok.keptT fun b u o e q => other b o (fun z => by rw [z, nC] at e; cases e) q
  have old : ∀ b o, s2.heap.get? b = some o → b ≠ C := fun b o e => Nat.ne_of_lt (Nat.lt_trans (Heap.lt_size e) hC)
  have oldD : ∀ b o, s2.heap.get? b = some o → b ≠ D := fun b o e => Nat.ne_of_lt (Nat.lt_of_lt_of_le (Heap.lt_size e) hD)
  have U : Un (frs X.stack) fp H2 H' s2.heap s'.heap := J.base
  have nD : ∀ b u, H' b = some u → b ≠ D := fun b u e z => by rw [z, hf] at e; cases e
  have U2 : Un (frs X.stack) fp H2 (upd H' D (.lst ys)) s2.heap h'' := ⟨fun b o e n hb hx => other b o (old b o e) (U.keep b o e n hb hx), fun b o e n hb hx => by
      obtain ⟨sl, q⟩ := U.slot b o e n hb hx
      exact ⟨sl, other b _ (old b o e) q⟩, fun b o e n hx => by rw [upd_ne (oldD b o e)]; exact U.free b o e n hx, fun b o e hx => by
      obtain ⟨o', q⟩ := U.there b o e hx
      exact ⟨o', other b o' (old b o e) q⟩, fun b xs e => by
      have q := U.tups b xs e
      rw [upd_ne (nD b _ q)]
      exact q, fun b o u e => by
      have q := U.frzs b o u e
      rw [upd_ne (nD b _ q)]
      exact q, fun b qs e => by
      obtain ⟨m, q⟩ := U.tbls b qs e
      exact ⟨m, by rw [upd_ne (nD b _ q)]; exact q⟩⟩
  have hok2 : HOk X.prog X.w (upd H' D (.lst ys)) h'' := fun b u e => by
    by_cases hb : b = D
    · subst hb
      rw [upd_same] at e
      cases e
      exact ⟨hz, its, n, hv, other b _ hDC eD⟩
    · rw [upd_ne hb] at e
      exact (hok b u e).stay (fun _ _ _ q => q) (fun c q => by rw [upd_ne (nD c _ q)]; exact q) fun c xs q => by rw [upd_ne (nD c _ q)]; exact q
  refine I2.call' (s' := { s' with heap := h'' }) (ch := fp) J.os U2 hok2 J.bare fun b hb => ?_
  obtain ⟨_, q1, _, q2, q3, q4⟩ := f2 b hb
  exact ⟨q2, q1, q3, q4⟩

/-- the loop of the block; RR: what is wanted of the made list -/
theorem comp_loop {pins : List (Addr × Obj)} {σ : St} {H2 : Hp} {s2 s4 : Shared} {it C : Addr} {fp : List Addr} {tn : Nat → Heap → Prop} {J : It} {n : Nat} {W : Nat → List V → Hp → Prop} {RR : Result → Shared → Prop} {D : Addr}
    (hc : X.calm = true) (hxe : ∀ e s, ¬ X.xe e s) (hnd : (x :: slots.map (fun k => X.N.getD k "")).Nodup) (hx : scope.names.lookup x = some .local) (I2 : Inv X pins σ H2 s2) (T : Turn X.prog X.w X.K (.Name x px) J fp it tn)
    (f2 : ∀ b ∈ fp, FpOk X pins H2 b) (hfs : ∀ b ∈ fp, b < s2.heap.objs.size) (hC : s2.heap.objs.size < C) (hD : s2.heap.objs.size ≤ D) (hDC : D ≠ C)
    (I4 : Inv (compCx X x slots scope cl C s2 H2 fp (X.pn ++ pins)) [] (none :: outs σ slots) H2 s4) (st4 : tn 0 s4.heap) (fr4 : ∀ b ∈ fp, H2 b = none) (eD4 : s4.heap.get? D = some { cls := .type "list", data := .seq #[] 0 }) (fD4 : H2 D = none)
    (ht : ∀ fp' pn, PTn (compCx X x slots scope cl C s2 H2 fp' pn) ifs elt tt) (hn : n ≤ 1000000) (w0 : W 0 [] H2)
    (turn : ∀ i ys H', i < n → W i ys H' → J.go i H' ∧ ∀ v H3, J.yld i H' v H3 → tt (some v :: outs σ slots) H3 fun y H4 => match y with | some y => W (i + 1) (ys ++ [y]) H4 | none => W (i + 1) ys H4)
    (stop : ∀ ys H', W n ys H' → J.stop n H')
    (fin : ∀ ys its k ps σc H' s', W n ys H' → Inv (compCx X x slots scope cl C s2 H2 fp (X.pn ++ pins)) ps σc H' s' → H' D = none → Vals ys its → ys.length ≤ sizeLine → s'.heap.get? D = some { cls := .type "list", data := .seq its.toArray k } → RR (.ok .next) s') :
    codeAny (model X.prog X.w) X.A (.compLoop (.ListComp elt [⟨.Name x px, iter, ifs, 0⟩] scope pos) 0 (.ref it) (.ref D) (compEnvC scope cl C X.env)) RR s4 := by
  have hln : (n : Nat) < sizeLine := by have : sizeLine = 16777216 := sizeLine_eq; omega
  have fpok : ∀ (H' : Hp) (ps : List (Addr × Obj)), (∀ p ∈ ps, p.1 ∉ fp) → (∀ b ∈ fp, H' b = none) → ∀ b ∈ fp, FpOk (compCx X x slots scope cl C s2 H2 fp (X.pn ++ pins)) ps H' b := fun H' ps hps hn b hb => by
    obtain ⟨_, q1, q2, _, q3, q4⟩ := f2 b hb
    refine ⟨hn b hb, (I4.ok.exf b hb).1, I4.ok.exfs b hb, .inl hb, (I4.ok.exf b hb).2, fun p hp z => ?_⟩
    rcases List.mem_append.mp hp with w | w
    · exact q4 p w z
    · exact hps p w (by rw [z]; exact hb)
  have nDfp : D ∉ fp := fun z => absurd (hfs D z) (Nat.not_lt.mpr hD)
  have nDfs : D ∉ (compCx X x slots scope cl C s2 H2 fp (X.pn ++ pins)).fs := fun z => by
    obtain ⟨_, o, ho, _⟩ := I4.ok.funs.mem z
    exact absurd (Heap.lt_size ho) (Nat.not_lt.mpr hD)
  have nDcl : ∀ y c, cl.lookup y = some c → c ≠ D := fun y c e z => by
    obtain ⟨v, q⟩ := I4.cell y c e
    have q2 : ∃ w, s4.heap.IsCell D w := ⟨v, by rw [← z]; exact q⟩
    obtain ⟨w, oc, h3, h4⟩ := q2
    rw [eD4] at h3
    cases h3
    cases h4
  have nDpn : ∀ p ∈ X.pn ++ pins, p.1 ≠ D := fun p hp z => absurd (Heap.lt_size (I2.pin p hp).1) (by rw [z]; exact Nat.not_lt.mpr hD)
  refine codeAny_compLoop_tests (fun k s' => ∃ i ys its q z H', k = n - i ∧ i ≤ n ∧ ys.length ≤ i ∧ Inv (compCx X x slots scope cl C s2 H2 fp (X.pn ++ pins)) [] (z :: outs σ slots) H' s' ∧ tn i s'.heap ∧ (∀ b ∈ fp, H' b = none) ∧
    s'.heap.get? D = some { cls := .type "list", data := .seq (its : List Value).toArray q } ∧ H' D = none ∧ Vals ys its ∧ W i ys H') ?_ n ⟨0, [], [], 0, none, H2, rfl, Nat.zero_le _, Nat.le_refl _, I4, st4, fr4, eD4, fD4, .nil, w0⟩
  rintro k s' ⟨i, ys, its, q, z, H', rfl, hi, hyl, J1, st1, fr1, eD, fD, hv, w⟩
  have JD : Inv (compCx X x slots scope cl C s2 H2 fp (X.pn ++ pins)) [(D, { cls := .type "list", data := .seq its.toArray q })] (z :: outs σ slots) H' s' := J1.pins_of fun p hp => by
    rw [List.mem_singleton.mp hp]
    exact ⟨eD, fD, hDC, nDfs, fun v e => by cases e⟩
  have nps : ∀ p ∈ ([(D, { cls := .type "list", data := .seq its.toArray q })] : List (Addr × Obj)), p.1 ∉ fp := fun p hp => by
    rw [List.mem_singleton.mp hp]
    exact nDfp
  by_cases hlt : i < n
  · obtain ⟨go, step⟩ := turn i ys H' hlt w
    refine thn (T.item (compCx X x slots scope cl C s2 H2 fp (X.pn ++ pins)) rfl rfl rfl hc i _ s' _ H' _ JD (fpok H' _ nps fr1) st1 go) fun r s1 hr => ?_
    obtain ⟨u, er, h4⟩ := hr
    subst er
    show wpAny _ _ (letOwnedTupleGo (.Name x px) (.ref it) u >>= fun _ => assign (.Name x px) (compEnvC scope cl C X.env) u) _ _ s1
    refine wpAny_bind (thn h4 fun _ s5 ⟨v, H5, J5, r5, y5, st5, fr5⟩ => ?_)
    have eD5 := (J5.pin (D, _) (List.mem_append_right _ (List.mem_singleton.mpr rfl))).1
    have fD5 := (J5.pin (D, _) (List.mem_append_right _ (List.mem_singleton.mpr rfl))).2.1
    have J5' := J5.pinned (fpok H5 _ nps fr5) (T.obj _ _ st5)
    have keepAll : ∀ (H7 : Hp) (s7 : Shared) (σ7 : St), Inv (compCx X x slots scope cl C s2 H2 fp (X.pn ++ pins)) ([(D, { cls := .type "list", data := .seq its.toArray q })] ++ pinsAt fp s5.heap) σ7 H7 s7 → tn (i + 1) s7.heap ∧ (∀ b ∈ fp, H7 b = none) ∧ s7.heap.get? D = some { cls := .type "list", data := .seq its.toArray q } ∧ H7 D = none := fun H7 s7 σ7 J7 => by
      have at_ : ∀ b ∈ fp, ∀ o, s5.heap.get? b = some o → s7.heap.get? b = some o ∧ H7 b = none := fun b hb o e => by
        have z := J7.pin (b, o) (List.mem_append_right _ (List.mem_append_right _ (mem_pinsAt hb e)))
        exact ⟨z.1, z.2.1⟩
      have zD := J7.pin (D, { cls := .type "list", data := .seq its.toArray q }) (List.mem_append_right _ (List.mem_append_left _ (List.mem_singleton.mpr rfl)))
      refine ⟨T.keep _ _ _ st5 fun b hb o e => (at_ b hb o e).1, fun b hb => ?_, zD.1, zD.2.1⟩
      obtain ⟨o, e, _⟩ := T.obj _ _ st5 b hb
      exact (at_ b hb o e).2
    refine wpAny_mono (pg_name (X := compCx X x slots scope cl C s2 H2 fp (X.pn ++ pins)) (i := 0) hnd rfl (.inl (lookup_relabel_local hx)) (.inr (lookup_relabel_local hx)) _ s5 _ H5 v u (fun σ6 H6 => σ6 = some v :: outs σ slots ∧ H6 = H5) J5' r5 ⟨rfl, rfl⟩) (fun _ s6 q6 => ?_) fun e s q => (hxe e s q).elim
    obtain ⟨σ6, H6, J6, rfl, rfl⟩ := q6
    refine wpAny_mono (ht fp (X.pn ++ pins) _ s6 _ _ _ J6 (step v _ y5)) (fun ok s7 q7 => ?_) fun e s q => (hxe e s q).elim
    cases ok with
    | false =>
      rw [if_neg Bool.false_ne_true] at q7 ⊢
      obtain ⟨H7, J7, w7⟩ := q7
      obtain ⟨st7, fr7, eD7, fD7⟩ := keepAll H7 s7 _ J7
      exact ⟨n - (i + 1), by omega, i + 1, ys, its, q, some v, H7, rfl, hlt, Nat.le_succ_of_le hyl, J7.pins_of (fun _ z => nomatch z), st7, fr7, eD7, fD7, hv, w7⟩
    | true =>
      rw [if_pos rfl] at q7 ⊢
      refine wpAny_mono q7 (fun y s8 q8 => ?_) fun e s q => (hxe e s q).elim
      obtain ⟨yv, H8, J8, r8, w8⟩ := q8
      obtain ⟨st8, fr8, eD8, fD8⟩ := keepAll H8 s8 _ J8
      have hl := hv.length
      refine append_at (hsz := by rw [List.size_toArray]; omega) eD8 fun h9 hs9 hD9 => ?_
      have J9 : Inv (compCx X x slots scope cl C s2 H2 fp (X.pn ++ pins)) [] (some v :: outs σ slots) H8 { s8 with heap := h9 } := (J8.pins_of (pins' := []) (fun _ z => nomatch z)).turned (it := D) (t' := s8.toks) (fun b o hb e => (hs9.2 b hb).trans e) fD8 hDC (.inr hD) nDcl (fun p hp => nDpn p (by
        have z : p ∈ (X.pn ++ pins) ++ [] := hp
        rw [List.append_nil] at z
        exact z))
      refine ⟨n - (i + 1), by omega, i + 1, ys ++ [yv], its ++ [y], q + 1, some v, H8, rfl, hlt, by rw [List.length_append, List.length_singleton]; omega, J9, T.keep _ _ _ st8 (fun b hb o e => (hs9.2 b (fun z => nDfp (by rw [← z]; exact hb))).trans e), fr8, ?_, fD8, hv.append (.cons r8 .nil), w8⟩
      rw [show (its ++ [y]).toArray = its.toArray.push y by simp]
      exact hD9
  · obtain rfl : i = n := Nat.le_antisymm hi (Nat.not_lt.mp hlt)
    refine thn (T.done (compCx X x slots scope cl C s2 H2 fp (X.pn ++ pins)) rfl rfl rfl hc i _ s' _ H' _ JD (fpok H' _ nps fr1) st1 (stop ys H' w)) fun r s1 hr => ?_
    obtain ⟨er, J9⟩ := hr
    subst er
    have e9 := J9.pin (D, _) (List.mem_append_right _ (List.mem_singleton.mpr rfl))
    exact fin ys its q _ _ H' s1 w J9 e9.2.1 hv (Nat.le_trans hyl (Nat.le_of_lt hln)) e9.1

/-- the block's start, for both uses -/
theorem comp_start {pins : List (Addr × Obj)} {σ : St} {s2 : Shared} {it : Addr} {fp : List Addr} {tn : Nat → Heap → Prop} {J : It} {H2 : Hp} {n : Nat} {W : Nat → List V → Hp → Prop} {RR : Addr → Addr → Result → Shared → Prop} {E : Value → Shared → Prop}
    (hc : X.calm = true) (hxe : ∀ e s, ¬ X.xe e s) (hcell : ∀ y ∈ scope.names, y.2 ≠ .cell) (hkind : scope.kind = .function) (hx : scope.names.lookup x = some .local) (hin : CellsIn cl X.env.cells) (hhas : HasCells cl (relabel scope X.env).names) (hsl : SlotsOk X scope slots)
    (hnd : (x :: slots.map (fun k => X.N.getD k "")).Nodup) (ht : ∀ C s2 H2 fp pn, PTn (compCx X x slots scope cl C s2 H2 fp pn) ifs elt tt) (I2 : Inv X pins σ H2 s2) (T : Turn X.prog X.w X.K (.Name x px) J fp it tn) (st2 : tn 0 s2.heap) (f2 : ∀ b ∈ fp, FpOk X pins H2 b)
    (hn : n ≤ 1000000) (w0 : W 0 [] H2)
    (turn : ∀ i ys H', i < n → W i ys H' → J.go i H' ∧ ∀ v H3, J.yld i H' v H3 → tt (some v :: outs σ slots) H3 fun y H4 => match y with | some y => W (i + 1) (ys ++ [y]) H4 | none => W (i + 1) ys H4)
    (stop : ∀ ys H', W n ys H' → J.stop n H')
    (fin : ∀ C D ys its k ps σc H' s', s2.heap.objs.size < C → s2.heap.objs.size ≤ D → D ≠ C → (∀ b ∈ fp, b < s2.heap.objs.size) → W n ys H' → Inv (compCx X x slots scope cl C s2 H2 fp (X.pn ++ pins)) ps σc H' s' → H' D = none → Vals ys its → ys.length ≤ sizeLine →
      s'.heap.get? D = some { cls := .type "list", data := .seq its.toArray k } → RR D C (.ok .next) s') :
    wpAny (model X.prog X.w) X.A (newList []) (fun acc s3 => wpAny (model X.prog X.w) X.A (newFunctionEnv scope X.env.globals cl [] X.env.qual none .none (some X.env)) (fun cenv s4 =>
      codeAny (model X.prog X.w) X.A (.compStart (.ListComp elt [⟨.Name x px, iter, ifs, 0⟩] scope pos) 0 (.ref it) acc { cenv with scope := relabel scope X.env }) (fun r s' => ∃ D, acc = .ref D ∧ RR D cenv.locals r s') s4) E s3) E s2 := by
  refine wpAny_newObj_type (wpAny_newFunctionEnv hcell (by intro y hy; simp at hy) (fun h1 hns hsb => ?_) hkind)
  dsimp only at hns hsb ⊢
  have hfs : ∀ b ∈ fp, b < s2.heap.objs.size := fun b hb => by
    obtain ⟨o, e, _⟩ := T.obj _ _ st2 b hb
    exact Heap.lt_size e
  have hsz : (s2.heap.push ({ cls := .type "list", dict := none, data := .seq ([] : List Value).toArray } : Obj)).objs.size = s2.heap.objs.size + 1 := Heap.size_push _ _
  have old : ∀ b o, s2.heap.get? b = some o → h1.get? b = some o := fun b o e => by
    refine hsb.extBut b o ?_ (Heap.get?_push_of_some _ (Heap.get?_push_of_some _ e))
    rw [hsz]
    exact Nat.ne_of_lt (Nat.lt_succ_of_lt (Heap.lt_size e))
  have eD : h1.get? s2.heap.objs.size = some { cls := .type "list", data := .seq #[] 0 } := by
    refine hsb.extBut _ _ ?_ (Heap.get?_push_of_some _ (Heap.get?_push_size _ rfl))
    rw [hsz]
    exact Nat.ne_of_lt (Nat.lt_succ_self _)
  rw [hsz] at hns ⊢
  have fD : H2 s2.heap.objs.size = none := I2.hok.fresh (Nat.le_refl _)
  have I4 := comp_cx (x := x) (slots := slots) (tk := s2.toks + ([] : List (Str × Value)).length) I2 hkind hin hhas hsl f2 hfs (Nat.lt_succ_self _) hns old
  have st4 : tn 0 h1 := T.keep _ _ _ st2 fun b _ o e => old b o e
  have loop : ∀ s4 : Shared, s4 = { s2 with heap := h1, toks := s2.toks + ([] : List (Str × Value)).length } →
      codeAny (model X.prog X.w) X.A (.compLoop (.ListComp elt [⟨.Name x px, iter, ifs, 0⟩] scope pos) 0 (.ref it) (.ref s2.heap.objs.size) (compEnvC scope cl (s2.heap.objs.size + 1) X.env))
        (fun r s' => ∃ D, Value.ref s2.heap.objs.size = .ref D ∧ RR D (s2.heap.objs.size + 1) r s') s4 := by
    rintro s4 rfl
    exact comp_loop hc hxe hnd hx I2 T f2 hfs (Nat.lt_succ_self _) (Nat.le_refl _) (Nat.ne_of_lt (Nat.lt_succ_self _)) I4 st4 (fun b hb => (f2 b hb).1) eD fD (fun fp' pn => ht _ _ _ fp' pn) hn w0 turn stop
      fun ys its k ps σc H' s' a1 a2 a3 a4 a5 a6 => ⟨_, rfl, fin _ _ ys its k ps σc H' s' (Nat.lt_succ_self _) (Nat.le_refl _) (Nat.ne_of_lt (Nat.lt_succ_self _)) hfs a1 a2 a3 a4 a5 a6⟩
  exact codeAny_compStart_list (loop _ rfl) (T.self _ 0 _ _ _ st4 (loop _ rfl))
/-- [elt for x in iter if ..] as a value -/
theorem pe_comp (hi : PI X (.Name x px) iter wi) (ht : ∀ C s2 H2 fp pn, PTn (compCx X x slots scope cl C s2 H2 fp pn) ifs elt tt) (hc : X.calm = true := by rfl) (hxe : ∀ e s, ¬ X.xe e s := by exact fun _ _ h => h) (hclos : closureFor scope X.env = pure cl := by rfl)
    (hcell : ∀ y ∈ scope.names, y.2 ≠ .cell := by decide +kernel) (hkind : scope.kind = .function := by rfl) (hnames : ∀ y ∈ scope.names, y.2 = .local → scope.names.lookup y.1 = some .local := by decide +kernel) (hx : scope.names.lookup x = some .local := by rfl)
    (hin : CellsIn cl X.env.cells := by first | exact cells_nil | exact cells_cons rfl cells_nil | exact cells_cons rfl (cells_cons rfl cells_nil) | exact cells_cons rfl (cells_cons rfl (cells_cons rfl cells_nil)))
    (hhas : HasCells cl (relabel scope X.env).names := by (repeat (refine has_cons (fun h => by first | exact ⟨_, rfl⟩ | (rcases h with h | h <;> cases h)) ?_)); exact has_nil)
    (hsl : SlotsOk X scope slots := by first | exact trivial | exact ⟨⟨rfl, rfl⟩, trivial⟩ | exact ⟨⟨rfl, rfl⟩, ⟨rfl, rfl⟩, trivial⟩ | exact ⟨⟨rfl, rfl⟩, ⟨rfl, rfl⟩, ⟨rfl, rfl⟩, trivial⟩)
    (hnd : (x :: slots.map (fun k => X.N.getD k "")).Nodup := by decide +kernel) (hs : ∀ v, foldedSetIterable iter X.env v = pure v := by intro _; rfl) :
    PE X (.ListComp elt [⟨.Name x px, iter, ifs, 0⟩] scope pos) (tComp slots wi tt) := by
  intro pins s σ H Q I h
  rw [eval_ListComp]
  refine wpAny_comprehension_free (use := none) rfl hs hclos hkind hnames (thn (hi pins s σ H _ I h) fun v s1 h1 => thn h1 fun itv s2 h2 => ?_)
  obtain ⟨it, fp, tn, J, H2, e, I2, T, st2, f2, n, W, hn, w0, turn, stop⟩ := h2
  subst e
  refine wpAny_mono (comp_start (E := X.xe) (RR := fun D C r s' => compPost (model X.prog X.w) X.A X.xe none (EP X pins σ Q) (.ref D) C r s') hc hxe hcell hkind hx hin hhas hsl hnd ht I2 T st2 f2 hn w0 turn (fun ys H' w => (stop ys H' w).1)
    fun C D ys its k ps σc H' s' c1 c2 c3 c4 a1 a2 a3 a4 a5 a6 => ?_) (fun acc s3 h3 => wpAny_mono h3 (fun cenv s4 h4 => codeAny_mono h4 fun r s' q => ?_) fun _ _ z => z) fun _ _ z => z
  · obtain ⟨m, hm, _⟩ := a2.loc
    refine ⟨m, hm, fun h' hb => ⟨.ref D, _, comp_back I2 a2 f2 c1 c2 c3 hb a3 a4 a5 a6, rfl, (stop ys H' a1).2 D a3⟩⟩
  · obtain ⟨D, rfl, q⟩ := q
    exact q
end
end L2

/-! EXCEPTIONS, four: the classes as the text has them; isinstance of an exception. -/
namespace L2
open PySem PySem.Spec PyProof.Rows
structure ExcF (K : PySem.W.Frag) (C : Addr) : Prop where
  ex : PySem.W.excIn K C mroVE "ValueError.__new__" = true
  ga : PySem.W.findIn K (.ref C) "__getattribute__" = some (some (.builtin "BaseException.__getattribute__"))
  gx : PySem.W.findIn K (.ref C) "__getattr__" = some none
  fa : PySem.W.findIn K (.ref C) "__class__" = some (some (.builtin "object.__class__"))
  fg : PySem.W.specialIn K (.builtin "object.__class__") "__get__" = some (some (.builtin "getset_descriptor.__get__"))
  ft : PySem.W.takesIn K (.builtin "object.__class__") = some true
  mo : PySem.W.mroIn K C (.type "object") = some true
  mb : PySem.W.mroIn K C (.type "BaseException") = some true
theorem cls_some {K : PySem.W.Frag} {C : Addr} (q : PySem.W.excIn K C mroVE "ValueError.__new__" = true) : (PySem.W.clsIn K C).isSome = true ∧ PySem.W.typeIn K (.ref C) = some (.type "type") := by
  unfold PySem.W.excIn at q
  split at q
  next dd cd sl found =>
    refine ⟨?_, ?_⟩
    · unfold PySem.W.clsIn
      rw [found]
      rfl
    · unfold PySem.W.typeIn
      show (K.lookup C).map _ = _
      rw [found]
      rfl
  next => cases q
theorem exm_own {K : PySem.W.Frag} {C Y : Addr} (hY : PySem.W.excIn K Y mroVE "ValueError.__new__" = true) (h1 : PySem.W.subIn K (.ref Y) (.type "BaseException") = some true) (h2 : PySem.W.subIn K (.ref C) (.ref Y) = some true) : PySem.W.exmOne K (.ref C) (.ref Y) = some true := by
  obtain ⟨a, b⟩ := cls_some hY
  unfold PySem.W.exmOne
  rw [h1, if_pos (by decide)]
  show (if ((PySem.W.clsIn K Y).isSome && PySem.W.typeIn K (.ref Y) == some (.type "type")) = true then PySem.W.subIn K (.ref C) (.ref Y) else none) = some true
  rw [a, b, if_pos (by decide)]
  exact h2
/-- a class that is raised, and what isinstance says of it -/
structure Raised (K : PySem.W.Frag) (S C1 C2 C3 C4 C5 R : Addr) (b1 b2 b3 b4 b5 : Bool) : Prop where
  f : ExcF K R
  exm : PySem.W.exmOne K (.ref R) (.ref S) = some true
  k1 : PySem.W.kitOne K (.ref R) (.ref C1) = some b1
  k2 : PySem.W.kitOne K (.ref R) (.ref C2) = some b2
  k3 : PySem.W.kitOne K (.ref R) (.ref C3) = some b3
  k4 : PySem.W.kitOne K (.ref R) (.ref C4) = some b4
  k5 : PySem.W.kitOne K (.ref R) (.ref C5) = some b5
  k6 : PySem.W.kitOne K (.ref R) (.type "ValueError") = some true
theorem boot_ValueError : bootBuiltins "ValueError" = some (.type "ValueError") := by decide +kernel
def rIsiE (K : PySem.W.Frag) : List V → Hp → VK → Prop := fun xs H Q => ∃ x C y c b, xs = [.ref x, y] ∧ RelV y c ∧ H x = some (ExcO x C) ∧ ExcF K C ∧ PySem.W.kitOne K (.ref C) c = some b ∧ Q (.bl b) H
theorem call_isiE {X : Cx} : CallR X (.builtin "isinstance") (rIsiE X.K) := by
  intro pins s σ H xs us Q I r h
  obtain ⟨x, C, y, c, b, rfl, rc, hx, F, e, q⟩ := h
  obtain ⟨u, v, rfl, ru, rv⟩ := r.two
  obtain rfl : u = Value.ref x := ru
  have ev : v = c := by
    cases y with
    | ref a => exact (show v = Value.ref a from rv).trans (show c = Value.ref a from rc).symm
    | ty n => exact (show v = Value.type n from rv).trans (show c = Value.type n from rc).symm
    | non => exact (show v = Value.none from rv).trans (show c = Value.none from rc).symm
    | bl b => exact (show v = Value.bool b from rv).trans (show c = Value.bool b from rc).symm
    | int i =>
      obtain ⟨t, rfl⟩ := (show ∃ t, c = Value.int i t from rc)
      exact absurd e (by unfold PySem.W.kitOne PySem.W.kitCls; simp)
    | str i =>
      obtain ⟨t, rfl⟩ := (show ∃ t, c = Value.str i t from rc)
      exact absurd e (by unfold PySem.W.kitOne PySem.W.kitCls; simp)
    | byt i =>
      obtain ⟨t, rfl⟩ := (show ∃ t, c = Value.bytes i t from rc)
      exact absurd e (by unfold PySem.W.kitOne PySem.W.kitCls; simp)
    | flt i =>
      obtain ⟨t, rfl⟩ := (show ∃ t, c = Value.float i t from rc)
      exact absurd e (by unfold PySem.W.kitOne PySem.W.kitCls; simp)
  subst ev
  obtain ⟨ph, _, _⟩ := (show ObjOk X.prog X.w H s.heap x (.ext (ExcAt x C)) from I.hok x _ hx)
  exact PySem.W.kia_one (kitx_exc (cls_some F.ex).1 F.ga F.gx F.fa F.fg F.ft F.mo F.mb) I.kIn ph e (fun z => nomatch z) fun tk => ⟨.bl b, H, I.tok _, rfl, q⟩
end L2
namespace L2
open PySem PySem.Spec PyProof.Rows
/-- a class of the text by its name, as a value -/
theorem pe_cls {X : Cx} {x : Str} {C : Addr} {pos : Pos} (hm : X.mg x = some (.ref C)) (hg : Gl X x := by rfl) (hd : (x == ("__debug__" : Str)) = false := by decide) : PE X (.Name x pos) (tC (.ref C)) := pe_glob hg hm rfl hd
end L2

/-! THE GREATEST FIRST -/
namespace Us
/-- the numbers of the greatest first; none where one is L or more -/
def gr (L t b : Int) : Option (List Int) := if 0 < t then (if L ≤ cl t b then none else (gr L (t * cl t b - b) (b * cl t b)).map (cl t b :: ·)) else some []
termination_by t.toNat
decreasing_by
  rename_i ht _
  obtain ⟨g1, g2⟩ := cl_spec (b := b) ht
  omega
theorem gr_zero {L t b : Int} (h : ¬ 0 < t) : gr L t b = some [] := by rw [gr, if_neg h]
theorem gr_none {L t b : Int} (h : 0 < t) (h1 : L ≤ cl t b) : gr L t b = none := by rw [gr, if_pos h, if_pos h1]
theorem gr_pos {L t b : Int} (h : 0 < t) (h1 : ¬ L ≤ cl t b) : gr L t b = (gr L (t * cl t b - b) (b * cl t b)).map (cl t b :: ·) := by rw [gr, if_pos h, if_neg h1]
/-- each above n * (n - 1) for the n ahead -/
def Ch : List Int → Prop
  | [] => True
  | x :: r => (∀ y ∈ r.head?, x * (x - 1) < y) ∧ Ch r
theorem Ch.at : ∀ {xs : List Int}, Ch xs → ∀ (i : Nat) (x y : Int), xs[i]? = some x → xs[i + 1]? = some y → x * (x - 1) < y
  | [], _, _, _, _, h, _ => nomatch h
  | x :: r, h, 0, _, y, hx, hy => by
    cases hx
    rw [List.getElem?_cons_succ, ← List.head?_eq_getElem?] at hy
    exact h.1 y hy
  | _ :: r, h, i + 1, x, y, hx, hy => Ch.at h.2 i x y (by rw [List.getElem?_cons_succ] at hx; exact hx) (by rw [List.getElem?_cons_succ] at hy; exact hy)
theorem gr_step {t b T L : Int} (ht : 0 < t) (hT : t ≤ T) (hb : 0 < b) (c : ¬ L ≤ cl t b) : b * cl t b ≤ T * L * L ∧ b ≤ T * L := by
  obtain ⟨g1, g2⟩ := cl_spec (b := b) ht
  have p := cl_pos ht hb
  generalize cl t b = s at *
  have a1 : t * s ≤ T * s := Int.mul_le_mul_of_nonneg_right hT (by omega)
  have a2 : T * s ≤ T * L := Int.mul_le_mul_of_nonneg_left (by omega) (by omega)
  have a3 : b * s ≤ T * L * s := Int.mul_le_mul_of_nonneg_right (by omega) (by omega)
  have a4 : T * L * s ≤ T * L * L := Int.mul_le_mul_of_nonneg_left (by omega) (by omega)
  exact ⟨by omega, by omega⟩
/-- 10 to the 400 -/
def LL : Int := 10 ^ 400
theorem LL_bits : LL ≤ P2 1329 := by unfold LL P2; decide +kernel
theorem LL_two : 1000 * LL * LL ≤ P2 2700 := by unfold LL P2; decide +kernel
end Us

/-! POWERS of greater ints, str(int), len(text), a call whose exceptions never fly -/
namespace L2
open PySem PySem.Spec PyProof.Rows
section
variable {X : Cx}
def CPowB (i j : Int) : Prop := 0 ≤ j ∧ (Builtin.Int.intBits i : Int) * j ≤ 2 ^ 27
theorem op_powB : OpR X (binaryOp .Pow) (rI CPowB fun i j => .int (i ^ j.toNat)) := opI fun _ _ _ _ _ _ _ hc q => pow_int hc.1 hc.2 q
def rStrB : List V → Hp → VK → Prop := fun xs H Q => ∃ i : Int, xs = [.int i] ∧ i.natAbs < 10 ^ 4300 ∧ Q (.str (toString i)) H
end
theorem fits {i : Int} (h : i.natAbs < 10 ^ 4300) : (Str.ofString (toString i)).length ≤ sizeLine := int_text_fits10 h
end L2

/-! SETS, one: the table. Its places rise, and it stays led. -/
namespace L2
open PySem PySem.Spec PyProof.Rows
def Up (xs : Array Nat) : Prop := xs.toList.Pairwise (· < ·)
theorem Up.at {xs : Array Nat} (u : Up xs) {i k x y : Nat} (hx : xs[i]? = some x) (hy : xs[k]? = some y) (h : i < k) : x < y := by
  unfold Up at u
  rw [List.pairwise_iff_getElem] at u
  rw [← Array.getElem?_toList] at hx hy
  obtain ⟨h1, rfl⟩ := List.getElem?_eq_some_iff.mp hx
  obtain ⟨h2, rfl⟩ := List.getElem?_eq_some_iff.mp hy
  exact u i k h1 h2 h
end L2

/-! SETS, two: a set of ints that is led, its places rising; one more int put into it. -/
namespace L2
open PySem PySem.Spec PyProof.Rows
def keyOf : Value → Int
  | .int i _ => i
  | _ => 0
/-- the unlike ones, as they are met first -/
def put1 (ks : List Int) (i : Int) : List Int := if i ∈ ks then ks else ks ++ [i]
def unlike (ns : List Int) : List Int := ns.foldl put1 []
def Led (w : World) (t : SetTable) : Prop := w.params.followText "set-order" = true ∨ t.led = true
/-- the set's object -/
structure SetD (P : Program) (w : World) (o : Obj) (es : Array (Int × Value)) (ep : Nat) (t : SetTable) (ks : List Int) : Prop where
  exact : o.ExactSet
  data : o.data = .set es ep t
  els : ElemsOf (intKind P w) es.toList
  keys : (es.toList.map fun e => keyOf e.2).Perm ks
  bound : es.size < scanBound
  fits : t.fits es.size = true
  up : Up t.place
  led : Led w t
def SetL (P : Program) (w : World) (a : Addr) (ks : List Int) (h : Heap) : Prop := ∃ o es ep t, h.get? a = some o ∧ SetD P w o es ep t ks
section
variable {prog : Program} {w : World} {A : Around} {E : Value → Shared → Prop} {s : Shared}
end
end L2

/-! SETS, three: set(list of ints). -/
namespace L2
open PySem PySem.Spec PyProof.Rows
section
variable {prog : Program} {w : World} {A : Around} {R : Result → Shared → Prop} {I : Addr} {fp wr : List Addr} {G : Array GenState → Array GenState → Prop} {n : Nat} {P : Nat → Value → Prop} {St : Nat → Shared → Prop}
end
section
variable {prog : Program} {w : World} {A : Around} {E : Value → Shared → Prop} {s : Shared}
def setO (w : World) : Obj := { cls := .type "set", dict := none, data := .set #[] 0 (.fresh 0 0 (!w.params.followText "set-order")) }
end
end L2

/-! SETS, four: walking a set. -/
namespace L2
open PySem PySem.Spec PyProof.Rows
section
variable {prog : Program} {w : World} {A : Around} {E : Value → Shared → Prop} {s : Shared}
variable {a : Addr} {o : Obj} {es : Array (Int × Value)} {ep : Nat} {t : SetTable} {ks : List Int}
/-- the iterator -/
def SIter (h : Heap) (I a : Addr) (first : Value) (i n ep : Nat) : Prop := ∃ o, h.get? I = some o ∧ o.cls = .type "set_iterator" ∧ o.data = .fields #[first, .int i 0, .ref a, .int n 0, .int ep 0]
theorem SIter.typeIs {I : Addr} {first : Value} {i n : Nat} (x : SIter s.heap I a first i n ep) : s.TypeIs (.ref I) "set_iterator" := let ⟨o, ho, hc, _⟩ := x; ⟨o, ho, hc⟩
/-- where each turn finds its item -/
structure Way (prog : Program) (w : World) (a : Addr) (es : Array (Int × Value)) (ep : Nat) (t : SetTable) (o : Obj) (slotAt : Nat → Nat) (its : Array (Int × Value)) : Prop where
  perm : its.toList.Perm es.toList
  zero : slotAt 0 = 0
  item : ∀ (s : Shared) (A : Around) (E : Value → Shared → Prop) (Q : Option (Value × Nat) → Shared → Prop) (i : Nat) (e : Int × Value), s.heap.get? a = some o → its[i]? = some e → Q (some (e.2, slotAt (i + 1))) s → wpAny (model prog w) A (setNext a (slotAt i) i ep) Q E s
  done : ∀ (s : Shared) (A : Around) (E : Value → Shared → Prop) (Q : Option (Value × Nat) → Shared → Prop), s.heap.get? a = some o → Q none s → wpAny (model prog w) A (setNext a (slotAt es.size) es.size ep) Q E s
def slotL (t : SetTable) : Nat → Nat
  | 0 => 0
  | i + 1 => t.place.getD i 0 + 1
end
end L2

/-! SETS, five: a set whose order is drawn; all items of a set; sorted(set). -/
namespace L2
open PySem PySem.Spec PyProof.Rows
section
variable {prog : Program} {w : World} {A : Around} {E : Value → Shared → Prop} {s : Shared}
variable {a : Addr} {o : Obj} {es : Array (Int × Value)} {ep : Nat} {t : SetTable} {ks : List Int}
def iterO (a : Addr) (first : Value) (n ep : Nat) : Obj := { cls := .type "set_iterator", data := .fields #[first, .int 0 0, .ref a, .int n 0, .int ep 0] }
end
end L2

/-! SETS, six: all items of a set; sorted(set). -/
namespace L2
open PySem PySem.Spec PyProof.Rows PySem.W
section
variable {prog : Program} {w : World} {A : Around} {E : Value → Shared → Prop} {s : Shared}
variable {a : Addr} {o : Obj} {es : Array (Int × Value)} {ep : Nat} {t : SetTable} {ks : List Int}
end
end L2

/-! SETS, seven: the rules over the layer. -/
namespace L2
open PySem PySem.Spec PyProof.Rows
section
variable {X : Cx} {pins : List (Addr × Obj)} {σ : St} {H : Hp} {s : Shared}
end
/-- a set of the ints ks -/
def SetO (P : Program) (w : World) (a : Addr) (ks : List Int) : HO := .ext (SetL P w a ks)
section
variable {X : Cx}
def rSet (P : Program) (w : World) (K : PySem.W.Frag) : List V → Hp → VK → Prop := fun xs H Q => ∃ (p : Addr) (ns : List Int), xs = [.ref p] ∧ SqL K H p (ns.map V.int) ∧ ns.length + 1 < 4096 ∧ ∀ a : Addr, H a = none → Q (.ref a) (upd H a (SetO P w a (unlike ns)))
def rSortedS (P : Program) (w : World) : List V → Hp → VK → Prop := fun xs H Q => ∃ (a : Addr) (ks : List Int), xs = [.ref a] ∧ H a = some (SetO P w a ks) ∧ ks.length < 64 ∧ ∀ (l : Addr) (ms : List Int), H l = none → ms.Perm ks → ms.Pairwise (· ≤ ·) → Q (.ref l) (upd H l (.lst (ms.map V.int)))
end
end L2

/-! SETS, eight: len(set). -/
namespace L2
open PySem PySem.Spec PyProof.Rows
section
variable {X : Cx}
def rLenS (P : Program) (w : World) : List V → Hp → VK → Prop := fun xs H Q => ∃ (a : Addr) (ks : List Int), xs = [.ref a] ∧ H a = some (SetO P w a ks) ∧ Q (.int ks.length) H
end
end L2

namespace Us
/-! all ways of a fraction within bounds -/
def rng (lo hi : Int) : List Int := (List.range (hi + 1 - lo).toNat).map fun (i : Nat) => lo + (i : Int)
theorem mem_rng {lo hi x : Int} : x ∈ rng lo hi ↔ lo ≤ x ∧ x ≤ hi := by
  unfold rng
  rw [List.mem_map]
  constructor
  · rintro ⟨i, hi', rfl⟩
    have := List.mem_range.mp hi'
    omega
  · rintro ⟨h1, h2⟩
    exact ⟨(x - lo).toNat, List.mem_range.mpr (by omega), by omega⟩
theorem rng_len (lo hi : Int) : (rng lo hi).length = (hi + 1 - lo).toNat := by unfold rng; simp
theorem rng_get {lo hi : Int} {i : Nat} (h : i < (hi + 1 - lo).toNat) : (rng lo hi)[i]? = some (lo + (i : Int)) := by
  unfold rng
  rw [List.getElem?_map, List.getElem?_range h]
  rfl
theorem rng_take {lo hi : Int} {i : Nat} (h : i < (hi + 1 - lo).toNat) : (rng lo hi).take (i + 1) = (rng lo hi).take i ++ [lo + (i : Int)] := by
  rw [List.take_add_one, rng_get h]
  rfl
/-- a run cut in three -/
theorem rng_cut {lo mid hi : Int} (h1 : lo ≤ mid) (h2 : mid ≤ hi + 1) : rng lo hi = rng lo (mid - 1) ++ rng mid hi := by
  unfold rng
  rw [show (hi + 1 - lo).toNat = (mid - 1 + 1 - lo).toNat + (hi + 1 - mid).toNat by omega, List.range_add, List.map_append, List.map_map]
  congr 1
  apply List.map_congr_left
  intro i _
  show lo + ((mid - 1 + 1 - lo).toNat + i : Nat) = mid + (i : Int)
  omega
theorem rng_nil {lo hi : Int} (h : hi < lo) : rng lo hi = [] := by
  unfold rng
  rw [show (hi + 1 - lo).toNat = 0 by omega]
  rfl
/-- rising rows of n numbers above a, at most g -/
def R : Nat → Int → Int → List (List Int)
  | 0, _, _ => [[]]
  | n + 1, a, g => (rng (a + 1) g).flatMap fun s => (R n s g).map (s :: ·)
def lastD (a : Int) (row : List Int) : Int := row.getLastD a
theorem R_mem : ∀ {n : Nat} {a g : Int} {row : List Int}, row ∈ R n a g → row.length = n ∧ (∀ x ∈ row, a < x ∧ x ≤ g) ∧ row.Pairwise (· < ·)
  | 0, a, g, row, h => by
    obtain rfl : row = [] := List.mem_singleton.mp h
    exact ⟨rfl, fun x hx => (nomatch hx), .nil⟩
  | n + 1, a, g, row, h => by
    obtain ⟨s, hs, h⟩ := List.mem_flatMap.mp h
    obtain ⟨r, hr, rfl⟩ := List.mem_map.mp h
    obtain ⟨i1, i2, i3⟩ := R_mem hr
    have := mem_rng.mp hs
    refine ⟨by rw [List.length_cons, i1], fun x hx => ?_, List.pairwise_cons.mpr ⟨fun x hx => (i2 x hx).1, i3⟩⟩
    rcases List.mem_cons.mp hx with rfl | hx
    · omega
    · have := i2 x hx
      omega
theorem flatMap_len {α β : Type} {f : α → List β} {c : Nat} : ∀ {l : List α}, (∀ x ∈ l, (f x).length ≤ c) → (l.flatMap f).length ≤ l.length * c
  | [], _ => by simp
  | x :: r, h => by
    have i := flatMap_len (l := r) fun y hy => h y (List.mem_cons_of_mem _ hy)
    have j := h x List.mem_cons_self
    rw [List.flatMap_cons, List.length_append, List.length_cons, Nat.succ_mul]
    omega
/-- the row comes to the fraction -/
def comes (t b : Int) (row : List Int) : Bool := decide ((tb row).1 * b = t * (tb row).2)
theorem fold_lin : ∀ (row : List Int) (x y : Int), row.foldl tbStep (x, y) = (x * (tb row).2 + y * (tb row).1, y * (tb row).2)
  | [], x, y => by simp [tb]
  | s :: r, x, y => by
    have e1 := fold_lin r (x * s + y) (y * s)
    have e2 := fold_lin r (0 * s + 1) (1 * s)
    have e3 : tb (s :: r) = r.foldl tbStep (0 * s + 1, 1 * s) := rfl
    rw [List.foldl_cons, show tbStep (x, y) s = (x * s + y, y * s) from rfl, e1, e3, e2]
    ext
    · show (x * s + y) * (tb r).2 + y * s * (tb r).1 = x * (1 * s * (tb r).2) + y * ((0 * s + 1) * (tb r).2 + 1 * s * (tb r).1)
      grind
    · show y * s * (tb r).2 = y * (1 * s * (tb r).2)
      grind
theorem tb_cons (s : Int) (r : List Int) : tb (s :: r) = ((tb r).2 + s * (tb r).1, s * (tb r).2) := by
  show r.foldl tbStep (0 * s + 1, 1 * s) = _
  rw [fold_lin]
  ext
  · show (0 * s + 1) * (tb r).2 + 1 * s * (tb r).1 = _
    grind
  · show 1 * s * (tb r).2 = _
    grind
theorem comes_cons {t b s : Int} {r : List Int} : comes t b (s :: r) = comes (t * s - b) (b * s) r := by
  unfold comes
  rw [tb_cons]
  apply decide_eq_decide.mpr
  show ((tb r).2 + s * (tb r).1) * b = t * (s * (tb r).2) ↔ (tb r).1 * (b * s) = (t * s - b) * (tb r).2
  constructor
  · intro h; grind
  · intro h; grind
theorem R_size : ∀ {n : Nat} {s g : Int} {row : List Int}, 0 < s → row ∈ R n s g → 0 < (tb row).2 ∧ 0 ≤ (tb row).1 ∧ (0 < n → 0 < (tb row).1) ∧ (tb row).1 * s ≤ n * (tb row).2
  | 0, s, g, row, hs, h => by
    obtain rfl : row = [] := List.mem_singleton.mp h
    exact ⟨by decide, by decide, fun h => absurd h (by decide), by simp [tb]⟩
  | n + 1, s, g, row, hs, h => by
    obtain ⟨x, hx, h⟩ := List.mem_flatMap.mp h
    obtain ⟨r, hr, rfl⟩ := List.mem_map.mp h
    have hx' := mem_rng.mp hx
    obtain ⟨i1, i2, i3, i4⟩ := R_size (s := x) (by omega) hr
    rw [tb_cons]
    have px : 0 < x := by omega
    have q1 : 0 < x * (tb r).2 := Int.mul_pos px i1
    have q2 : 0 ≤ x * (tb r).1 := Int.mul_nonneg (by omega) i2
    have q3 : ((tb r).2 + x * (tb r).1) * s ≤ ((tb r).2 + x * (tb r).1) * x := Int.mul_le_mul_of_nonneg_left (by omega) (by omega)
    have q4 : x * ((tb r).1 * x) ≤ x * (n * (tb r).2) := Int.mul_le_mul_of_nonneg_left i4 (by omega)
    refine ⟨q1, ?_, fun _ => ?_, ?_⟩
    · show 0 ≤ (tb r).2 + x * (tb r).1
      omega
    · show 0 < (tb r).2 + x * (tb r).1
      omega
    · show ((tb r).2 + x * (tb r).1) * s ≤ ((n + 1 : Nat) : Int) * (x * (tb r).2)
      have e : ((n + 1 : Nat) : Int) = (n : Int) + 1 := by omega
      rw [e]
      have e2 : ((tb r).2 + x * (tb r).1) * x = x * (tb r).2 + x * ((tb r).1 * x) := by grind
      have e3 : ((n : Int) + 1) * (x * (tb r).2) = x * (n * (tb r).2) + x * (tb r).2 := by grind
      omega
/-- the ways of n + 1 shares above a -/
def W : Nat → Int → Int → Int → Int → List (List Int)
  | 0, t, b, a, g => if b / t * t = b ∧ a < b / t ∧ b / t ≤ g then [[b / t]] else []
  | n + 1, t, b, a, g => (rng ((if b / t > a then b / t else a) + 1) (if ((n : Int) + 2) * b / t < g then ((n : Int) + 2) * b / t else g)).flatMap fun s => (W n (t * s - b) (b * s) s g).map (s :: ·)
theorem filter_flatMap' {α β : Type} {p : β → Bool} {f : α → List β} : ∀ l : List α, (l.flatMap f).filter p = l.flatMap fun x => (f x).filter p
  | [] => rfl
  | x :: r => by rw [List.flatMap_cons, List.filter_append, filter_flatMap' r, List.flatMap_cons]
theorem flatMap_nil' {α β : Type} {f : α → List β} : ∀ {l : List α}, (∀ x ∈ l, f x = []) → l.flatMap f = []
  | [], _ => rfl
  | x :: r, h => by rw [List.flatMap_cons, h x List.mem_cons_self, flatMap_nil' fun y hy => h y (List.mem_cons_of_mem _ hy)]; rfl
theorem flatMap_congr' {α β : Type} {f f' : α → List β} : ∀ {l : List α}, (∀ x ∈ l, f x = f' x) → l.flatMap f = l.flatMap f'
  | [], _ => rfl
  | x :: r, h => by rw [List.flatMap_cons, h x List.mem_cons_self, flatMap_congr' fun y hy => h y (List.mem_cons_of_mem _ hy), List.flatMap_cons]
theorem rng_one (x : Int) : rng x x = [x] := by
  unfold rng
  rw [show (x + 1 - x).toNat = 1 by omega]
  simp
theorem W_eq : ∀ (n : Nat) (t b a g : Int), 0 < t → 0 < b → 0 ≤ a → W n t b a g = (R (n + 1) a g).filter (comes t b)
  | 0, t, b, a, g, ht, hb, ha => by
    show (if b / t * t = b ∧ a < b / t ∧ b / t ≤ g then [[b / t]] else []) = ((rng (a + 1) g).flatMap fun s => [[s]]).filter (comes t b)
    rw [filter_flatMap']
    have c1 : ∀ s : Int, comes t b [s] = decide (b = t * s) := fun s => by
      unfold comes tb
      apply decide_eq_decide.mpr
      show (0 * s + 1) * b = t * (1 * s) ↔ b = t * s
      rw [Int.zero_mul, Int.zero_add, Int.one_mul, Int.one_mul]
    have c2 : ∀ s : Int, b = t * s → s = b / t := fun s h => by rw [h, Int.mul_ediv_cancel_left _ (by omega)]
    by_cases c : b / t * t = b ∧ a < b / t ∧ b / t ≤ g
    · rw [if_pos c, rng_cut (lo := a + 1) (mid := b / t) (hi := g) (by omega) (by omega), rng_cut (lo := b / t) (mid := b / t + 1) (hi := g) (by omega) (by omega), List.flatMap_append, List.flatMap_append,
        show b / t + 1 - 1 = b / t by omega, rng_one, flatMap_nil' (l := rng (a + 1) (b / t - 1)), flatMap_nil' (l := rng (b / t + 1) g)]
      · show _ = [] ++ (([[b / t]].filter (comes t b) ++ []) ++ [])
        rw [List.filter_cons, c1, decide_eq_true (by rw [Int.mul_comm]; exact c.1.symm), if_pos rfl]
        rfl
      · intro s hs
        have := mem_rng.mp hs
        rw [List.filter_cons, c1, decide_eq_false (fun z => by have := c2 s z; omega)]
        rfl
      · intro s hs
        have := mem_rng.mp hs
        rw [List.filter_cons, c1, decide_eq_false (fun z => by have := c2 s z; omega)]
        rfl
    · rw [if_neg c, flatMap_nil']
      intro s hs
      have := mem_rng.mp hs
      rw [List.filter_cons, c1, decide_eq_false (fun z => c ?_)]
      · rfl
      · have := c2 s z
        subst this
        refine ⟨by rw [Int.mul_comm]; exact z.symm, by omega, by omega⟩
  | n + 1, t, b, a, g, ht, hb, ha => by
    show (rng ((if b / t > a then b / t else a) + 1) (if ((n : Int) + 2) * b / t < g then ((n : Int) + 2) * b / t else g)).flatMap (fun s => (W n (t * s - b) (b * s) s g).map (s :: ·)) = ((rng (a + 1) g).flatMap fun s => (R (n + 1) s g).map (s :: ·)).filter (comes t b)
    rw [filter_flatMap']
    have low : ∀ s, 0 < s → s ≤ b / t → ∀ r ∈ R (n + 1) s g, comes t b (s :: r) = false := fun s s0 hs r hr => by
      rw [comes_cons]
      obtain ⟨i1, _, i3, _⟩ := R_size s0 hr
      have i3 := i3 (by omega)
      have e : s * t ≤ b := Int.le_trans (Int.mul_le_mul_of_nonneg_right hs (by omega)) (Int.ediv_mul_le b (by omega))
      refine decide_eq_false fun z => ?_
      have p1 : 0 < (tb r).1 * (b * s) := Int.mul_pos i3 (Int.mul_pos hb s0)
      have p2 : (t * s - b) * (tb r).2 ≤ 0 := Int.mul_nonpos_of_nonpos_of_nonneg (by rw [Int.mul_comm t s]; omega) (by omega)
      omega
    have high : ∀ s, 0 < s → ((n : Int) + 2) * b / t < s → ∀ r ∈ R (n + 1) s g, comes t b (s :: r) = false := fun s s0 hs r hr => by
      rw [comes_cons]
      obtain ⟨i1, i2, _, i4⟩ := R_size s0 hr
      have e : ((n : Int) + 2) * b < s * t := (Int.ediv_lt_iff_lt_mul ht).mp hs
      refine decide_eq_false fun z => ?_
      have e2 : ((n + 1 : Nat) : Int) = (n : Int) + 1 := by omega
      rw [e2] at i4
      have p1 : (tb r).1 * s * b ≤ ((n : Int) + 1) * (tb r).2 * b := Int.mul_le_mul_of_nonneg_right i4 (by omega)
      have p0 : ((n : Int) + 2) * b = ((n : Int) + 1) * b + b := by grind
      have p2 : (((n : Int) + 1) * b) * (tb r).2 < (t * s - b) * (tb r).2 := Int.mul_lt_mul_of_pos_right (by rw [Int.mul_comm t s]; omega) i1
      have p3 : (tb r).1 * (b * s) = (tb r).1 * s * b := by grind
      have p4 : ((n : Int) + 1) * (tb r).2 * b = (((n : Int) + 1) * b) * (tb r).2 := by grind
      omega
    have inner : ∀ s, ((R (n + 1) s g).map (s :: ·)).filter (comes t b) = ((R (n + 1) s g).filter fun r => comes t b (s :: r)).map (s :: ·) := fun s => by
      rw [List.filter_map]
      rfl
    have none : ∀ s, (∀ r ∈ R (n + 1) s g, comes t b (s :: r) = false) → ((R (n + 1) s g).map (s :: ·)).filter (comes t b) = [] := fun s h => by
      rw [inner, List.filter_eq_nil_iff.mpr fun r hr => by rw [h r hr]; exact Bool.false_ne_true]
      rfl
    have q0 : 0 ≤ b / t := Int.ediv_nonneg (by omega) (by omega)
    -- what stands between
    have key : ∀ lo hi : Int, lo = (if b / t > a then b / t else a) + 1 → hi = (if ((n : Int) + 2) * b / t < g then ((n : Int) + 2) * b / t else g) →
        (rng lo hi).flatMap (fun s => (W n (t * s - b) (b * s) s g).map (s :: ·)) = (rng lo hi).flatMap fun s => ((R (n + 1) s g).map (s :: ·)).filter (comes t b) := fun lo hi h1 h2 => by
      refine flatMap_congr' fun s hs => ?_
      have m := mem_rng.mp hs
      have bt : b / t < s := by split at h1 <;> omega
      have p : b < s * t := (Int.ediv_lt_iff_lt_mul ht).mp bt
      have s0 : 0 < s := by omega
      rw [W_eq n (t * s - b) (b * s) s g (by rw [Int.mul_comm t s]; omega) (Int.mul_pos hb s0) (by omega), inner]
      congr 1
      apply List.filter_congr
      intro r _
      exact comes_cons.symm
    rw [key _ _ rfl rfl]
    have hlo : a + 1 ≤ (if b / t > a then b / t else a) + 1 := by split <;> omega
    have lowS : ∀ s ∈ rng (a + 1) (if b / t > a then b / t else a), ((R (n + 1) s g).map (s :: ·)).filter (comes t b) = [] := fun s hs => by
      have m := mem_rng.mp hs
      refine none s (low s (by omega) ?_)
      have m2 := m.2
      split at m2 <;> omega
    have highS : ∀ s, a < s → (if ((n : Int) + 2) * b / t < g then ((n : Int) + 2) * b / t else g) < s → s ≤ g → ((R (n + 1) s g).map (s :: ·)).filter (comes t b) = [] := fun s h0 h1 h2 => by
      refine none s (high s (by omega) ?_)
      split at h1 <;> omega
    generalize hL : (if b / t > a then b / t else a) + 1 = L at *
    generalize hU : (if ((n : Int) + 2) * b / t < g then ((n : Int) + 2) * b / t else g) = U at *
    have hUg : U ≤ g := by rw [← hU]; split <;> omega
    have hL' : (if b / t > a then b / t else a) = L - 1 := by omega
    rw [hL'] at lowS
    by_cases c : L ≤ U
    · rw [rng_cut (lo := a + 1) (mid := L) (hi := g) hlo (by omega), rng_cut (lo := L) (mid := U + 1) (hi := g) (by omega) (by omega), List.flatMap_append, List.flatMap_append, flatMap_nil' lowS, flatMap_nil' (l := rng (U + 1) g), show U + 1 - 1 = U by omega]
      · simp
      · intro s hs
        have m := mem_rng.mp hs
        exact highS s (by omega) (by omega) (by omega)
    · rw [rng_nil (by omega : U < L), List.flatMap_nil]
      refine (flatMap_nil' fun s hs => ?_).symm
      have m := mem_rng.mp hs
      by_cases c2 : s ≤ L - 1
      · exact lowS s (mem_rng.mpr ⟨m.1, c2⟩)
      · exact highS s (by omega) (by omega) m.2
theorem W_len : ∀ (n : Nat) (t b a : Int) (g : Nat), 0 < t → 0 < b → 0 ≤ a → (W n t b a g).length ≤ g ^ n
  | 0, t, b, a, g, _, _, _ => by
    unfold W
    split <;> simp
  | n + 1, t, b, a, g, ht, hb, ha => by
    show ((rng ((if b / t > a then b / t else a) + 1) (if ((n : Int) + 2) * b / t < (g : Int) then ((n : Int) + 2) * b / t else (g : Int))).flatMap (fun s => (W n (t * s - b) (b * s) s g).map (s :: ·))).length ≤ _
    have q0 : 0 ≤ b / t := Int.ediv_nonneg (by omega) (by omega)
    refine Nat.le_trans (flatMap_len (c := g ^ n) fun s hs => ?_) ?_
    · have m := mem_rng.mp hs
      have bt : b / t < s := by have := m.1; split at this <;> omega
      have p : b < s * t := (Int.ediv_lt_iff_lt_mul ht).mp bt
      rw [List.length_map]
      exact W_len n (t * s - b) (b * s) s g (by rw [Int.mul_comm t s]; omega) (Int.mul_pos hb (by omega)) (by omega)
    · rw [Nat.pow_succ, Nat.mul_comm]
      refine Nat.mul_le_mul_left _ ?_
      rw [rng_len]
      split <;> split <;> omega
/-- all rows of 1 to n numbers, fewer first -/
def lev (g : Int) : Nat → List (List Int)
  | 0 => []
  | n + 1 => lev g n ++ R (n + 1) 0 g
/-- all ways with 1 to n shares -/
def allW (t b g : Int) : Nat → List (List Int)
  | 0 => []
  | n + 1 => allW t b g n ++ W n t b 0 g
end Us

namespace Us
/-! sums of unlike ones of a row -/
def ssStep (P : Int → Bool) (d : Int) : Int → Bool := fun s => P s || P (s - d)
def ss (ds : List Int) : Int → Bool := ds.foldl ssStep fun s => decide (s = 0)
theorem ss_nil (s : Int) : ss [] s = decide (s = 0) := rfl
theorem ss_snoc (ds : List Int) (d s : Int) : ss (ds ++ [d]) s = (ss ds s || ss ds (s - d)) := by
  unfold ss
  rw [List.foldl_append]
  rfl
theorem fold_ss_mono : ∀ (ds : List Int) (P : Int → Bool) (s : Int), P s = true → ds.foldl ssStep P s = true
  | [], _, _, h => h
  | d :: r, P, s, h => fold_ss_mono r (ssStep P d) s (by unfold ssStep; rw [h]; rfl)
theorem ss_app (ds es : List Int) {s : Int} (h : ss ds s = true) : ss (ds ++ es) s = true := by
  unfold ss
  rw [List.foldl_append]
  exact fold_ss_mono es _ s h
theorem ss_take_mono {ds : List Int} {i j : Nat} (hij : i ≤ j) {s : Int} (h : ss (ds.take i) s = true) : ss (ds.take j) s = true := by
  have e : ds.take j = ds.take i ++ (ds.take j).drop i := by
    have := (List.take_append_drop i (ds.take j)).symm
    rw [List.take_take, Nat.min_eq_left hij] at this
    exact this
  rw [e]
  exact ss_app _ _ h
theorem fold_ss_nonneg : ∀ (ds : List Int) (P : Int → Bool), (∀ s, P s = true → 0 ≤ s) → (∀ d ∈ ds, 0 < d) → ∀ s, ds.foldl ssStep P s = true → 0 ≤ s
  | [], _, h, _, s, q => h s q
  | d :: r, P, h, hd, s, q => fold_ss_nonneg r (ssStep P d) (fun s z => by
      unfold ssStep at z
      rcases (Bool.or_eq_true _ _).mp z with z | z
      · exact h s z
      · have := h _ z
        have := hd d List.mem_cons_self
        omega) (fun x hx => hd x (List.mem_cons_of_mem _ hx)) s q
theorem ss_nonneg {ds : List Int} (hd : ∀ d ∈ ds, 0 < d) {s : Int} (h : ss ds s = true) : 0 ≤ s :=
  fold_ss_nonneg ds _ (fun s z => by have := of_decide_eq_true z; omega) hd s h
theorem take_succ' {ds : List Int} {k : Nat} (h : k < ds.length) : ds.take (k + 1) = ds.take k ++ [ds.getD k 0] := by
  rw [List.take_add_one, List.getElem?_eq_getElem h, List.getD_eq_getElem?_getD, List.getElem?_eq_getElem h]
  rfl
theorem ss_succ {ds : List Int} {k : Nat} (h : k < ds.length) (s : Int) : ss (ds.take (k + 1)) s = (ss (ds.take k) s || ss (ds.take k) (s - ds.getD k 0)) := by
  rw [take_succ' h, ss_snoc]
/-- the walk from the greatest on -/
def gw (ds : List Int) : Nat → Int → List Int × Int
  | 0, left => ([], left)
  | k + 1, left => if ss (ds.take k) (left - ds.getD k 0) = true then (ds.getD k 0 :: (gw ds k (left - ds.getD k 0)).1, (gw ds k (left - ds.getD k 0)).2) else gw ds k left
theorem gw_pos {ds : List Int} {k : Nat} {left : Int} (c : ss (ds.take k) (left - ds.getD k 0) = true) : gw ds (k + 1) left = (ds.getD k 0 :: (gw ds k (left - ds.getD k 0)).1, (gw ds k (left - ds.getD k 0)).2) := by
  rw [gw, if_pos c]
theorem gw_neg {ds : List Int} {k : Nat} {left : Int} (c : ¬ ss (ds.take k) (left - ds.getD k 0) = true) : gw ds (k + 1) left = gw ds k left := by
  rw [gw, if_neg c]
theorem gw_mem {ds : List Int} : ∀ (k : Nat) (left : Int), k ≤ ds.length → ∀ x ∈ (gw ds k left).1, x ∈ ds.take k
  | 0, left, _, x, h => by simp [gw] at h
  | k + 1, left, hk, x, h => by
    rw [take_succ' (by omega)]
    unfold gw at h
    split at h
    · rcases List.mem_cons.mp h with rfl | h
      · simp
      · exact List.mem_append_left _ (gw_mem k _ (by omega) x h)
    · exact List.mem_append_left _ (gw_mem k _ (by omega) x h)
theorem gw_len {ds : List Int} : ∀ (k : Nat) (left : Int), (gw ds k left).1.length ≤ k
  | 0, left => by simp [gw]
  | k + 1, left => by
    unfold gw
    split
    · have := gw_len (ds := ds) k (left - ds.getD k 0)
      rw [List.length_cons]
      omega
    · have := gw_len (ds := ds) k left
      omega
/-- numbers between 0 and m, none twice, are few -/
theorem few_of_nodup : ∀ {l l' : List Int}, l.Nodup → (∀ x ∈ l, x ∈ l') → l.length ≤ l'.length
  | [], _, _, _ => Nat.zero_le _
  | x :: r, l', nd, h => by
    obtain ⟨n1, n2⟩ := List.nodup_cons.mp nd
    have hx := h x List.mem_cons_self
    have i := few_of_nodup (l := r) (l' := l'.erase x) n2 fun y hy => (List.mem_erase_of_ne (fun z => n1 (by rw [← z]; exact hy))).mpr (h y (List.mem_cons_of_mem _ hy))
    rw [List.length_erase_of_mem hx] at i
    have : 0 < l'.length := List.length_pos_of_mem hx
    rw [List.length_cons]
    omega
theorem few_between {l : List Int} {m : Int} (nd : l.Nodup) (h : ∀ x ∈ l, 0 ≤ x ∧ x ≤ m) : l.length ≤ (m + 1).toNat := by
  have := few_of_nodup nd (l' := rng 0 m) fun x hx => mem_rng.mpr (h x hx)
  rw [rng_len] at this
  omega
end Us

namespace L2
open PySem PySem.Spec PyProof.Rows
/-! LISTS OF LISTS of ints, all new since B, no two one -/
structure RowsAt (B H : Hp) (r : Addr) (as : List Addr) (rows : List (List Int)) : Prop where
  hr : H r = some (.lst (as.map V.ref))
  nr : r ∉ as
  br : B r = none
  len : as.length = rows.length
  at' : ∀ (i : Nat) (a : Addr) (row : List Int), as[i]? = some a → rows[i]? = some row → B a = none ∧ H a = some (.lst (row.map V.int))
theorem RowsAt.same {B H H' : Hp} {r : Addr} {as : List Addr} {rows : List (List Int)} (x : RowsAt B H r as rows) (g : Same H H') : RowsAt B H' r as rows :=
  ⟨g _ _ x.hr, x.nr, x.br, x.len, fun i a row h1 h2 => ⟨(x.at' i a row h1 h2).1, g _ _ (x.at' i a row h1 h2).2⟩⟩
theorem RowsAt.base {B B' H : Hp} {r : Addr} {as : List Addr} {rows : List (List Int)} (x : RowsAt B H r as rows) (g : Same B' B) : RowsAt B' H r as rows :=
  ⟨x.hr, x.nr, g.free x.br, x.len, fun i a row h1 h2 => ⟨g.free (x.at' i a row h1 h2).1, (x.at' i a row h1 h2).2⟩⟩
theorem RowsAt.nil {B H : Hp} {r : Addr} (h1 : B r = none) (h2 : H r = some (.lst [])) : RowsAt B H r [] [] :=
  ⟨h2, fun h => (nomatch h), h1, rfl, fun i a row h => (nomatch h)⟩
theorem RowsAt.mem {B H : Hp} {r : Addr} {as : List Addr} {rows : List (List Int)} (x : RowsAt B H r as rows) {a : Addr} (h : a ∈ as) : B a = none ∧ ∃ row, row ∈ rows ∧ H a = some (.lst (row.map V.int)) := by
  obtain ⟨i, hi, rfl⟩ := List.mem_iff_getElem.mp h
  have hi' : i < rows.length := by rw [← x.len]; exact hi
  obtain ⟨h1, h2⟩ := x.at' i as[i] rows[i] (List.getElem?_eq_getElem hi) (List.getElem?_eq_getElem hi')
  exact ⟨h1, _, List.getElem_mem hi', h2⟩
theorem RowsAt.get {B H : Hp} {r : Addr} {as : List Addr} {rows : List (List Int)} (x : RowsAt B H r as rows) {i : Nat} {v : V} (h : (as.map V.ref)[i]? = some v) : ∃ a row, v = .ref a ∧ as[i]? = some a ∧ rows[i]? = some row ∧ B a = none ∧ H a = some (.lst (row.map V.int)) := by
  rw [List.getElem?_map] at h
  cases e : as[i]? with
  | none => rw [e] at h; cases h
  | some a =>
    rw [e] at h
    have hi : i < rows.length := by rw [← x.len]; exact (List.getElem?_eq_some_iff.mp e).1
    obtain ⟨h1, h2⟩ := x.at' i a rows[i] e (List.getElem?_eq_getElem hi)
    exact ⟨a, rows[i], (Option.some.inj h).symm, rfl, List.getElem?_eq_getElem hi, h1, h2⟩
theorem RowsAt.geti {B H : Hp} {r : Addr} {as : List Addr} {rows : List (List Int)} (x : RowsAt B H r as rows) {i : Nat} {row : List Int} (h : rows[i]? = some row) : ∃ a, as[i]? = some a ∧ B a = none ∧ H a = some (.lst (row.map V.int)) := by
  have hi : i < as.length := by rw [x.len]; exact (List.getElem?_eq_some_iff.mp h).1
  obtain ⟨h1, h2⟩ := x.at' i as[i] row (List.getElem?_eq_getElem hi) h
  exact ⟨as[i], List.getElem?_eq_getElem hi, h1, h2⟩
/-- a store to something that stood before them -/
theorem RowsAt.put {B H : Hp} {q r : Addr} {o o' : HO} {as : List Addr} {rows : List (List Int)} (x : RowsAt B H q as rows) (h : B r = some o) : RowsAt B (upd H r o') q as rows := by
  have ne : ∀ a, B a = none → a ≠ r := fun a ha z => by rw [z, h] at ha; cases ha
  refine ⟨?_, x.nr, x.br, x.len, fun i a row h1 h2 => ?_⟩
  · rw [upd_ne (ne q x.br)]
    exact x.hr
  · obtain ⟨y1, y2⟩ := x.at' i a row h1 h2
    refine ⟨y1, ?_⟩
    rw [upd_ne (ne a y1)]
    exact y2
/-- a further list at the end -/
theorem RowsAt.add {B H : Hp} {r p : Addr} {as : List Addr} {rows : List (List Int)} {row : List Int} (x : RowsAt B H r as rows) (hB : B p = none) (hp : H p = some (.lst (row.map V.int))) (n1 : p ≠ r) :
    RowsAt B (upd H r (.lst (as.map V.ref ++ [.ref p]))) r (as ++ [p]) (rows ++ [row]) := by
  refine ⟨by rw [upd_same, List.map_append]; rfl, ?_, x.br, by rw [List.length_append, List.length_append, x.len]; rfl, fun i a row' h1 h2 => ?_⟩
  · rw [List.mem_append, List.mem_singleton]
    exact fun h => h.elim x.nr fun z => n1 z.symm
  · by_cases c : i < as.length
    · rw [List.getElem?_append_left c] at h1
      rw [List.getElem?_append_left (by rw [← x.len]; exact c)] at h2
      obtain ⟨y1, y2⟩ := x.at' i a row' h1 h2
      refine ⟨y1, ?_⟩
      rw [upd_ne (fun z => x.nr (by rw [← z]; exact List.mem_of_getElem? h1))]
      exact y2
    · rw [List.getElem?_append_right (by omega)] at h1
      rw [List.getElem?_append_right (by rw [← x.len]; omega), ← x.len] at h2
      have i0 : i - as.length = 0 := by
        have := (List.getElem?_eq_some_iff.mp h1).1
        rw [List.length_singleton] at this
        omega
      rw [i0] at h1 h2
      cases h1
      cases h2
      refine ⟨hB, ?_⟩
      rw [upd_ne n1]
      exact hp
/-- the lists of one put behind those of another -/
theorem RowsAt.cat {B C H : Hp} {r q : Addr} {as bs : List Addr} {rows rows2 : List (List Int)} (x : RowsAt B H r as rows) (y : RowsAt C H q bs rows2) (g : Same B C) (hr : ∃ o, C r = some o) :
    RowsAt B (upd H r (.lst (as.map V.ref ++ bs.map V.ref))) r (as ++ bs) (rows ++ rows2) := by
  have neR : ∀ b ∈ bs, b ≠ r := fun b hb z => by
    obtain ⟨o, ho⟩ := hr
    have := (y.mem hb).1
    rw [z, ho] at this
    cases this
  refine ⟨by rw [upd_same, List.map_append], ?_, x.br, by rw [List.length_append, List.length_append, x.len, y.len], fun i a row' h1 h2 => ?_⟩
  · rw [List.mem_append]
    exact fun h => h.elim x.nr fun z => neR r z rfl
  · by_cases c : i < as.length
    · rw [List.getElem?_append_left c] at h1
      rw [List.getElem?_append_left (by rw [← x.len]; exact c)] at h2
      obtain ⟨y1, y2⟩ := x.at' i a row' h1 h2
      refine ⟨y1, ?_⟩
      rw [upd_ne (fun z => x.nr (by rw [← z]; exact List.mem_of_getElem? h1))]
      exact y2
    · rw [List.getElem?_append_right (by omega)] at h1
      rw [List.getElem?_append_right (by rw [← x.len]; omega), ← x.len] at h2
      obtain ⟨y1, y2⟩ := y.at' _ a row' h1 h2
      refine ⟨g.free y1, ?_⟩
      rw [upd_ne (neR a (List.mem_of_getElem? h1))]
      exact y2
theorem nodup_snoc {as : List Addr} {p : Addr} (h : as.Nodup) (n : p ∉ as) : (as ++ [p]).Nodup := List.nodup_append.mpr ⟨h, by simp, fun a ha b hb => by
    rw [List.mem_singleton.mp hb]
    exact fun z => n (z ▸ ha)⟩
theorem RowsAt.nodup_cat {C H : Hp} {r q : Addr} {as bs : List Addr} {rows rows2 : List (List Int)} {B : Hp} (h1 : as.Nodup) (h2 : bs.Nodup) (x : RowsAt B C r as rows) (y : RowsAt C H q bs rows2) : (as ++ bs).Nodup := List.nodup_append.mpr ⟨h1, h2, fun a ha b hb z => by
    obtain ⟨_, _, _, e⟩ := x.mem ha
    have := (y.mem hb).1
    rw [← z, e] at this
    cases this⟩
/-- what is not there yet is none of them -/
theorem RowsAt.out {B H : Hp} {q p : Addr} {as : List Addr} {rows : List (List Int)} (x : RowsAt B H q as rows) (h : H p = none) : p ≠ q ∧ p ∉ as := by
  refine ⟨fun z => ?_, fun z => ?_⟩
  · rw [z, x.hr] at h
    cases h
  · obtain ⟨_, _, _, e⟩ := x.mem z
    rw [h] at e
    cases e
def rowD (row : List Int) : PyData := .list (row.map PyData.int)
theorem dvs_rows {K : PySem.W.Frag} {H : Hp} : ∀ (as : List Addr) (rows : List (List Int)), as.length = rows.length → (∀ (i : Nat) (a : Addr) (row : List Int), as[i]? = some a → rows[i]? = some row → H a = some (.lst (row.map V.int))) → DVs K H (as.map V.ref) (rows.map rowD)
  | [], [], _, _ => .nil
  | a :: as, row :: rows, hl, h => .cons (.lst (SqL.of (h 0 a row rfl rfl)) (dvs_ints row)) (dvs_rows as rows (by simpa using hl) fun i b ro h1 h2 => h (i + 1) b ro (by rw [List.getElem?_cons_succ]; exact h1) (by rw [List.getElem?_cons_succ]; exact h2))
theorem RowsAt.dv {K : PySem.W.Frag} {B H : Hp} {r : Addr} {as : List Addr} {rows : List (List Int)} (x : RowsAt B H r as rows) : DV K H (.ref r) (.list (rows.map rowD)) :=
  .lst (SqL.of x.hr) (dvs_rows as rows x.len fun i a row h1 h2 => (x.at' i a row h1 h2).2)
theorem Same.put {B H : Hp} {r : Addr} {o : HO} (g : Same B H) (h : B r = none) : Same B (upd H r o) := fun b u e => by
  have ne : b ≠ r := fun z => by rw [z, h] at e; cases e
  rw [upd_ne ne]
  exact g b u e
/-- promises by one def for each n, as one -/
theorem Cal.any {P : Program} {w : World} {K : PySem.W.Frag} {mg : Str → Option Value} {base : Heap} {CX : CXT} {x : Str} {ps : List Str} {k m : Nat} {sp : Nat → Sp} (C : ∀ n, n ≤ m → Cal P w K mg base CX x ps k (sp n)) : Cal P w K mg base CX x ps k (fun vs H Q E => ∃ n, n ≤ m ∧ sp n vs H Q E) := by
  obtain ⟨f, fd, F, b, kp, mm, oc, od, osl, l⟩ := (C 0 (Nat.zero_le _)).ex
  refine ⟨f, fd, ⟨fun vs H Q E ⟨n, hn, h⟩ => ?_, fun A outer s H args us vs Q E hr he hb hv ⟨n, hn, h⟩ => ?_⟩, b, kp, mm, oc, od, osl, l⟩
  · exact ((C n hn).law mm l).len vs H Q E h
  · exact ((C n hn).law mm l).run A outer s H args us vs Q E hr he hb hv h
theorem Cal.mono {P : Program} {w : World} {K : PySem.W.Frag} {mg : Str → Option Value} {base : Heap} {CX : CXT} {x : Str} {ps : List Str} {j k : Nat} {sp : Sp} (C : Cal P w K mg base CX x ps j sp) (h : j ≤ k) : Cal P w K mg base CX x ps k sp := by
  obtain ⟨f, fd, F, b⟩ := C.ex
  exact ⟨f, fd, F.mono h, b⟩
/-- the divisors, rising -/
def divs (n : Int) : List Int := (Us.rng 1 n).filter fun k => decide (n % k = 0)
theorem filter_take {n : Int} {p : Int → Bool} {i : Nat} (hi : i < (n + 1 - 1).toNat) : ((Us.rng 1 n).take (i + 1)).filter p = if p (1 + (i : Int)) = true then ((Us.rng 1 n).take i).filter p ++ [1 + (i : Int)] else ((Us.rng 1 n).take i).filter p := by
  rw [Us.rng_take hi, List.filter_append]
  cases h : p (1 + (i : Int)) with
  | true => rw [if_pos rfl, List.filter_cons, h, if_pos rfl]; rfl
  | false => rw [if_neg Bool.false_ne_true, List.filter_cons, h, if_neg Bool.false_ne_true, List.filter_nil, List.append_nil]
theorem divs_len (n : Int) : (divs n).length ≤ n.toNat := by
  unfold divs
  refine Nat.le_trans (List.length_filter_le _ _) ?_
  rw [Us.rng_len]
  omega
theorem divs_pos {n : Int} : ∀ d ∈ divs n, 0 < d := fun d h => by
  have := Us.mem_rng.mp (List.mem_filter.mp h).1
  omega
section
variable {X : Cx}
/-- a written list of ints, or of pairs of ints, as one -/
def intsOf : List Expr → Option (List Int)
  | [] => some []
  | .Constant (.int i) _ _ :: r => (intsOf r).map (i :: ·)
  | _ :: _ => none
def pairsOf : List Expr → Option (List (Int × Int))
  | [] => some []
  | .Tuple [.Constant (.int i) _ _, .Constant (.int k) _ _] _ _ :: r => (pairsOf r).map ((i, k) :: ·)
  | _ :: _ => none
theorem PA.imp {es : List Expr} {t t' : TA} (h : PA X es t) (w : ∀ σ H Q, t' σ H Q → t σ H Q) : PA X es t' := fun pos pins s σ H Q I q => h pos pins s σ H Q I (w σ H Q q)
theorem PE.imp' {e : Expr} {t t' : TE} (h : PE X e t) (w : ∀ σ H Q, t' σ H Q → t σ H Q) : PE X e t' := fun pins s σ H Q I q => h pins s σ H Q I (w σ H Q q)
def tIntA (ns : List Int) : TA := fun _ H Q => Q (ns.map V.int) H
def tIntL (ns : List Int) : TE := fun _ H Q => ns.length ≤ sizeLine ∧ ∀ p, H p = none → Q (.ref p) (upd H p (.lst (ns.map V.int)))
structure PairsAt (B H : Hp) (as : List Addr) (ps : List (Int × Int)) : Prop where
  len : as.length = ps.length
  at' : ∀ (i : Nat) (a : Addr) (p : Int × Int), as[i]? = some a → ps[i]? = some p → B a = none ∧ H a = some (.tup [.int p.1, .int p.2])
def tPairA (ps : List (Int × Int)) : TA := fun _ H Q => ∀ (as : List Addr) (H' : Hp), Same H H' → PairsAt H H' as ps → Q (as.map V.ref) H'
def tPairL (ps : List (Int × Int)) : TE := fun _ H Q => ps.length ≤ sizeLine ∧ ∀ (l : Addr) (as : List Addr) (H' : Hp), Same H H' → H l = none → H' l = some (.lst (as.map V.ref)) → PairsAt H H' as ps → Q (.ref l) H'
end
/-! a written list is looked at once; then it stands for itself -/
end L2

namespace L2
open PySem PySem.Spec PyProof.Rows

/-! ### lists of pairs as tables -/
section
variable {κ : Type} [DecidableEq κ]
def valV (kvs : List (κ × V)) (k : κ) : Option V := (kvs.find? fun kv => decide (kv.1 = k)).map (·.2)
/-- in its place, or at the end -/
def putK (kvs : List (κ × V)) (k : κ) (v : V) : List (κ × V) :=
  if (kvs.any fun kv => decide (kv.1 = k)) = true then kvs.map (fun kv => if kv.1 = k then (kv.1, v) else kv) else kvs ++ [(k, v)]
def dropK (kvs : List (κ × V)) (k : κ) : List (κ × V) := kvs.filter fun kv => decide (kv.1 ≠ k)

theorem valV_nil {k : κ} : valV ([] : List (κ × V)) k = none := rfl
theorem valV_pos {p : κ × V} {r : List (κ × V)} {k : κ} (e : p.1 = k) : valV (p :: r) k = some p.2 := by simp [valV, List.find?_cons, e]
theorem valV_neg {p : κ × V} {r : List (κ × V)} {k : κ} (e : ¬ p.1 = k) : valV (p :: r) k = valV r k := by simp [valV, List.find?_cons, e]
theorem valV_any (k : κ) : ∀ kvs : List (κ × V), (kvs.any fun kv => decide (kv.1 = k)) = (valV kvs k).isSome
  | [] => rfl
  | p :: r => by
    rw [List.any_cons]
    by_cases e : p.1 = k
    · simp only [valV_pos e, decide_eq_true e, Bool.true_or, Option.isSome_some]
    · rw [valV_neg e, decide_eq_false e, Bool.false_or]; exact valV_any k r
theorem valV_map (k j : κ) (y : V) : ∀ kvs : List (κ × V), valV (kvs.map fun kv => if kv.1 = k then (kv.1, y) else kv) j = (valV kvs j).map fun x => if j = k then y else x
  | [] => rfl
  | p :: r => by
    have ih := valV_map k j y r
    rw [List.map_cons]
    by_cases h : p.1 = k
    · rw [if_pos h]
      by_cases e : p.1 = j
      · rw [valV_pos (p := (p.1, y)) e, valV_pos e, Option.map_some, if_pos (e.symm.trans h)]
      · rw [valV_neg (p := (p.1, y)) e, valV_neg e, ih]
    · rw [if_neg h]
      by_cases e : p.1 = j
      · rw [valV_pos (p := p) e, valV_pos e, Option.map_some, if_neg (fun z => h (e.trans z))]
      · rw [valV_neg (p := p) e, valV_neg e, ih]
theorem valV_snoc (k j : κ) (y : V) : ∀ kvs : List (κ × V), valV kvs k = none → valV (kvs ++ [(k, y)]) j = if j = k then some y else valV kvs j
  | [], _ => by
    by_cases e : k = j
    · rw [if_pos e.symm]; exact valV_pos (p := (k, y)) e
    · rw [if_neg (fun z => e z.symm)]; exact valV_neg (p := (k, y)) e
  | p :: r, hn => by
    rw [List.cons_append]
    have hk : ¬ p.1 = k := fun z => by rw [valV_pos z] at hn; cases hn
    rw [valV_neg hk] at hn
    have ih := valV_snoc k j y r hn
    by_cases e : p.1 = j
    · rw [valV_pos e, valV_pos e, if_neg (fun z => hk (e.trans z))]
    · rw [valV_neg e, valV_neg e, ih]
theorem valV_put (kvs : List (κ × V)) (k j : κ) (y : V) : valV (putK kvs k y) j = if j = k then some y else valV kvs j := by
  unfold putK
  by_cases a : (kvs.any fun kv => decide (kv.1 = k)) = true
  · rw [if_pos a, valV_map]
    rw [valV_any] at a
    by_cases e : j = k
    · obtain ⟨x, hx⟩ := Option.isSome_iff_exists.mp a
      rw [if_pos e, e, hx, Option.map_some, if_pos rfl]
    · rw [if_neg e]
      cases valV kvs j with
      | none => rfl
      | some x => rw [Option.map_some, if_neg e]
  · rw [if_neg a]
    refine valV_snoc k j y kvs ?_
    rw [valV_any] at a
    cases q : valV kvs k with
    | none => rfl
    | some x => rw [q] at a; exact (a rfl).elim
theorem length_putK (kvs : List (κ × V)) (k : κ) (v : V) : (putK kvs k v).length ≤ kvs.length + 1 := by
  unfold putK
  split
  · rw [List.length_map]; omega
  · rw [List.length_append, List.length_cons, List.length_nil]; omega
theorem putK_new {kvs : List (κ × V)} {k : κ} (v : V) (h : valV kvs k = none) : putK kvs k v = kvs ++ [(k, v)] := by
  unfold putK
  rw [valV_any, h]
  exact if_neg (by decide)

theorem RelO.isSome_eq {o : Option V} {u : Option Value} (r : RelO o u) : o.isSome = u.isSome := by
  cases o with
  | none => cases u with
    | none => rfl
    | some _ => exact (show False from r).elim
  | some _ => cases u with
    | none => exact (show False from r).elim
    | some _ => rfl
theorem RelO.getD {o : Option V} {u : Option Value} {d : V} {d' : Value} (r : RelO o u) (rd : RelV d d') : RelV (o.getD d) (u.getD d') := by
  cases o with
  | none => cases u with
    | none => exact rd
    | some _ => exact (show False from r).elim
  | some _ => cases u with
    | none => exact (show False from r).elim
    | some _ => exact r

/-- raw tables of the same keys -/
theorem KV.val {kvs : List (κ × V)} {vs : List (κ × Value)} (r : KV kvs vs) (k : κ) : RelO (valV kvs k) (valueAt vs k) := by
  unfold KV at r
  induction r with
  | nil => exact True.intro
  | @cons p q ps qs h t ih =>
    obtain ⟨h1, h2⟩ := h
    by_cases e : p.1 = k
    · have e' : q.1 = k := h1.symm.trans e
      have b : valueAt (q :: qs) k = some q.2 := by simp [valueAt, List.find?_cons, e']
      rw [valV_pos e, b]; exact h2
    · have e' : ¬ q.1 = k := fun z => e (h1.trans z)
      have b : valueAt (q :: qs) k = valueAt qs k := by simp [valueAt, List.find?_cons, e']
      rw [valV_neg e, b]; exact ih
theorem KV.any {kvs : List (κ × V)} {vs : List (κ × Value)} (r : KV kvs vs) (k : κ) : (kvs.any fun kv => decide (kv.1 = k)) = vs.any fun kv => decide (kv.1 = k) := by
  unfold KV at r
  induction r with
  | nil => rfl
  | cons h t ih => rw [List.any_cons, List.any_cons, ih, h.1]
theorem KV.repl {kvs : List (κ × V)} {vs : List (κ × Value)} (r : KV kvs vs) (k : κ) {y : V} {u : Value} (ry : RelV y u) :
    KV (kvs.map fun kv => if kv.1 = k then (kv.1, y) else kv) (vs.map fun kv => if kv.1 = k then (kv.1, u) else kv) := by
  unfold KV at r ⊢
  induction r with
  | nil => exact .nil
  | @cons p q ps qs h t ih =>
    rw [List.map_cons, List.map_cons]
    refine .cons ?_ ih
    obtain ⟨h1, h2⟩ := h
    by_cases e : p.1 = k
    · rw [if_pos e, if_pos (h1.symm.trans e)]; exact ⟨h1, ry⟩
    · rw [if_neg e, if_neg (fun z => e (h1.trans z))]; exact ⟨h1, h2⟩
theorem KV.put {kvs : List (κ × V)} {vs : List (κ × Value)} (r : KV kvs vs) (k : κ) {y : V} {u : Value} (ry : RelV y u) : KV (putK kvs k y) (stored vs k u) := by
  unfold putK stored
  rw [r.any k]
  by_cases e : (vs.any fun kv => decide (kv.1 = k)) = true
  · rw [if_pos e, if_pos e]; exact r.repl k ry
  · rw [if_neg e, if_neg e]; exact Paired.snoc r ⟨rfl, ry⟩
theorem KV.drop {kvs : List (κ × V)} {vs : List (κ × Value)} (r : KV kvs vs) (k : κ) : KV (dropK kvs k) (without vs k) := by
  unfold KV at r ⊢
  unfold dropK without
  induction r with
  | nil => exact .nil
  | @cons p q ps qs h t ih =>
    obtain ⟨h1, h2⟩ := h
    rw [List.filter_cons, List.filter_cons]
    by_cases e : p.1 = k
    · have a : ¬ decide (p.1 ≠ k) = true := by simp [e]
      have b : ¬ decide (q.1 ≠ k) = true := by simp [h1.symm.trans e]
      rw [if_neg a, if_neg b]; exact ih
    · have e' : ¬ q.1 = k := fun z => e (h1.trans z)
      have a : decide (p.1 ≠ k) = true := by simp [e]
      have b : decide (q.1 ≠ k) = true := by simp [e']
      rw [if_pos a, if_pos b]; exact .cons ⟨h1, h2⟩ ih
theorem KV.keys {kvs : List (κ × V)} {vs : List (κ × Value)} (r : KV kvs vs) : kvs.map (·.1) = vs.map (·.1) := by
  unfold KV at r
  induction r with
  | nil => rfl
  | cons h t ih => rw [List.map_cons, List.map_cons, ih, h.1]
theorem KV.length {kvs : List (κ × V)} {vs : List (κ × Value)} (r : KV kvs vs) : kvs.length = vs.length := Paired.length r
end


/-! ### a tracked dict, its keys ints and texts or tuples of these -/
theorem kV_is {P : Program} {w : World} {k : Key} {u : Value} (r : RelV (kV k) u) : (mixKind P w).is k u = true := by
  cases k with
  | inl i => obtain ⟨t, e⟩ := (show ∃ t, u = Value.int i t from r); subst e; exact mixKind_int P w i t
  | inr x => obtain ⟨t, e⟩ := (show ∃ t, u = Value.str x t from r); subst e; exact mixKind_str P w x t
theorem items_are {P : Program} {w : World} : ∀ {ks : List Key} {us : List Value}, Vals (ks.map kV) us → ItemsAre (mixKind P w) ks us
  | [], _, r => by rw [List.map_nil] at r; cases r; exact .nil
  | k :: ks, _, r => by
    rw [List.map_cons] at r
    cases r with
    | cons h t => exact .cons (kV_is h) (items_are t)

/-- raw entries of a dict with tuple keys -/
abbrev KT (H : Hp) : List (List Key × V) → List (List Key × Addr × Value) → Prop := Paired fun p q => p.1 = q.1 ∧ H q.2.1 = some (.tup (p.1.map kV)) ∧ RelV p.2 q.2.2
theorem KT.val {H : Hp} {kvs : List (List Key × V)} {xs : List (List Key × Addr × Value)} (r : KT H kvs xs) (k : List Key) : RelO (valV kvs k) ((atKey xs k).map (·.2)) := by
  induction r with
  | nil => exact True.intro
  | @cons p q ps qs h t ih =>
    obtain ⟨h1, _, h2⟩ := h
    by_cases e : p.1 = k
    · have e' : q.1 = k := h1.symm.trans e
      have b : atKey (q :: qs) k = some q.2 := by simp [atKey, List.find?_cons, e']
      rw [valV_pos e, b]; exact h2
    · have e' : ¬ q.1 = k := fun z => e (h1.trans z)
      have b : atKey (q :: qs) k = atKey qs k := by simp [atKey, List.find?_cons, e']
      rw [valV_neg e, b]; exact ih
theorem KT.repl {H : Hp} {kvs : List (List Key × V)} {xs : List (List Key × Addr × Value)} (r : KT H kvs xs) (k : List Key) {y : V} {u : Value} (ry : RelV y u) :
    KT H (kvs.map fun kv => if kv.1 = k then (kv.1, y) else kv) (xs.map (putAt k u)) := by
  induction r with
  | nil => exact .nil
  | @cons p q ps qs h t ih =>
    rw [List.map_cons, List.map_cons]
    refine .cons ?_ ih
    obtain ⟨h1, h2, h3⟩ := h
    unfold putAt
    by_cases e : p.1 = k
    · rw [if_pos e, if_pos (h1.symm.trans e)]; exact ⟨h1, h2, ry⟩
    · rw [if_neg e, if_neg (fun z => e (h1.trans z))]; exact ⟨h1, h2, h3⟩
theorem KT.put {H : Hp} {kvs : List (List Key × V)} {xs : List (List Key × Addr × Value)} (r : KT H kvs xs) (k : List Key) {b : Addr} {y : V} {u : Value} (hb : H b = some (.tup (k.map kV))) (ry : RelV y u) :
    KT H (putK kvs k y) (storedH xs k b u) := by
  have e : (kvs.any fun kv => decide (kv.1 = k)) = (atKey xs k).isSome := by
    rw [valV_any, (r.val k).isSome_eq, Option.isSome_map]
  unfold putK storedH
  rw [e]
  by_cases q : (atKey xs k).isSome = true
  · rw [if_pos q, if_pos q]; exact r.repl k ry
  · rw [if_neg q, if_neg q]; exact Paired.snoc r ⟨rfl, hb, ry⟩
theorem KT.keeps {H H' : Hp} {kvs : List (List Key × V)} {xs : List (List Key × Addr × Value)} (r : KT H kvs xs) (ht : ∀ b ys, H b = some (.tup ys) → H' b = some (.tup ys)) : KT H' kvs xs :=
  Paired.mapP r fun _ _ z => ⟨z.1, ht _ _ z.2.1, z.2.2⟩

section
variable {P : Program} {w : World} {H : Hp} {h : Heap} {a : Addr}
theorem rd_of {u : HO} (ok : HOk P w H h) (e : Rd H a u) : ObjOk P w H h a u := e.ok ok
theorem dk_rd {kvs : List (Key × V)} (ok : HOk P w H h) (e : Rd H a (.dK kvs)) : kvs.length ≤ sizeLine ∧ (a == sysModules) = false ∧ ∃ vs, KV kvs vs ∧ h.DictOf (mixKind P w) a vs :=
  show ObjOk P w H h a (.dK kvs) from rd_of ok e
theorem dk_of {kvs : List (Key × V)} (ok : HOk P w H h) (e : H a = some (.dK kvs)) : kvs.length ≤ sizeLine ∧ (a == sysModules) = false ∧ ∃ vs, KV kvs vs ∧ h.DictOf (mixKind P w) a vs := dk_rd ok (.inl e)
/-- a tracked tuple of ints and texts is a key -/
theorem key_of {ks : List Key} (ok : HOk P w H h) (e : H a = some (.tup (ks.map kV))) : (tupleKind (mixKind P w)).is h ks a := by
  obtain ⟨_, its, r, o, h1, h2, n, h3⟩ := (show ObjOk P w H h a (.tup (ks.map kV)) from ok a _ e)
  exact ⟨o, its.toArray, n, h1, h2, h3, by simpa using items_are r⟩
theorem dt_rd {kvs : List (List Key × V)} (ok : HOk P w H h) (e : Rd H a (.dT kvs)) : kvs.length ≤ sizeLine ∧ (a == sysModules) = false ∧
    ∃ xs, KT H kvs xs ∧ h.DictOfH (tupleKind (mixKind P w)) a xs := by
  obtain ⟨z, y, xs, r, o, es, ep, h1, h2, h3, h4, h5⟩ := (show ObjOk P w H h a (.dT kvs) from rd_of ok e)
  refine ⟨z, y, xs, r, o, es, ep, h1, h2, h3, h4, fun x hx => ?_, h5⟩
  have all : ∀ {l : List (List Key × V)} {m : List (List Key × Addr × Value)}, KT H l m → ∀ x ∈ m, (tupleKind (mixKind P w)).is h x.1 x.2.1 := by
    intro l m q
    induction q with
    | nil => intro x hx; exact nomatch hx
    | @cons p q ps qs hq t ih =>
      intro x hx
      rcases List.mem_cons.mp hx with e | hx
      · subst e
        exact key_of ok (by rw [← hq.1]; exact hq.2.1)
      · exact ih x hx
  exact all r x hx
theorem dt_of {kvs : List (List Key × V)} (ok : HOk P w H h) (e : H a = some (.dT kvs)) : kvs.length ≤ sizeLine ∧ (a == sysModules) = false ∧
    ∃ xs, KT H kvs xs ∧ h.DictOfH (tupleKind (mixKind P w)) a xs := dt_rd ok (.inl e)
end

/-- what the dict at a holds at the key y -/
def DGet (H : Hp) (a : Addr) (y : V) (r : Option V) : Prop :=
  (∃ kvs k, Rd H a (.dK kvs) ∧ y = kV k ∧ r = valV kvs k) ∨ ∃ kvs k b, Rd H a (.dT kvs) ∧ y = .ref b ∧ H b = some (.tup (k.map kV)) ∧ r = valV kvs k
/-- the heap behind a[y] = v -/
def DPut (H : Hp) (a : Addr) (y v : V) (H' : Hp) : Prop :=
  (∃ kvs k, H a = some (.dK kvs) ∧ y = kV k ∧ kvs.length < sizeLine ∧ H' = upd H a (.dK (putK kvs k v))) ∨
  ∃ kvs k b, H a = some (.dT kvs) ∧ y = .ref b ∧ H b = some (.tup (k.map kV)) ∧ kvs.length < sizeLine ∧ H' = upd H a (.dT (putK kvs k v))
theorem DGet.k {H : Hp} {a : Addr} {kvs : List (Key × V)} {k : Key} (e : H a = some (.dK kvs)) : DGet H a (kV k) (valV kvs k) := .inl ⟨kvs, k, .inl e, rfl, rfl⟩
theorem DGet.t {H : Hp} {a b : Addr} {kvs : List (List Key × V)} {k : List Key} (e : H a = some (.dT kvs)) (eb : H b = some (.tup (k.map kV))) : DGet H a (.ref b) (valV kvs k) := .inr ⟨kvs, k, b, .inl e, rfl, eb, rfl⟩
theorem DPut.k {H : Hp} {a : Addr} {kvs : List (Key × V)} {k : Key} {v : V} (e : H a = some (.dK kvs)) (hl : kvs.length < sizeLine) : DPut H a (kV k) v (upd H a (.dK (putK kvs k v))) := .inl ⟨kvs, k, e, rfl, hl, rfl⟩
theorem DPut.t {H : Hp} {a b : Addr} {kvs : List (List Key × V)} {k : List Key} {v : V} (e : H a = some (.dT kvs)) (eb : H b = some (.tup (k.map kV))) (hl : kvs.length < sizeLine) :
    DPut H a (.ref b) v (upd H a (.dT (putK kvs k v))) := .inr ⟨kvs, k, b, e, rfl, eb, hl, rfl⟩


section
variable {X : Cx} {pins : List (Addr × Obj)} {σ : St} {H : Hp} {s : Shared} {a : Addr} {y v : V} {u r : Value} {o : Option V} {A : Around} {E : Value → Shared → Prop}

theorem Inv.big (I : Inv X pins σ H s) : sysModules < s.heap.objs.size := by
  have h : mainGlobals < s.heap.objs.size := (I.mod.glob.keeps I.bk).lt
  exact Nat.lt_trans (by decide) h

/-- d[y], there -/
theorem d_getItem {Q : Value → Shared → Prop} (hu : A.units + 1 < cLine) (I : Inv X pins σ H s) (g : DGet H a y (some v)) (ry : RelV y u) (h : ∀ w' s', Inv X pins σ H s' → RelV v w' → Q w' s') :
    wpAny (model X.prog X.w) A (getItem (.ref a) u) Q E s := by
  rcases g with ⟨kvs, k, e, ey, l⟩ | ⟨kvs, k, b, e, ey, eb, l⟩
  · subst ey
    obtain ⟨z, hd, vs, rel, dd⟩ := dk_rd I.hok e
    obtain ⟨w', hw, rw'⟩ := RelO.some_of (v := v) (o := valueAt vs k) (by rw [l]; exact rel.val k)
    exact wpAny_getItem_of (kV_is ry) dd.mapOf hw (h w' _ (I.tok _) rw')
  · subst ey
    cases (show u = Value.ref b from ry)
    obtain ⟨z, hd, xs, rel, dd⟩ := dt_rd I.hok e
    obtain ⟨w', hw, rw'⟩ := RelO.some_of (v := v) (o := (atKey xs k).map (·.2)) (by rw [l]; exact rel.val k)
    obtain ⟨p, hp, hp2⟩ := Option.map_eq_some_iff.mp hw
    refine wpAny_getItem_heap (tupleKind_room_in1 hu) (key_of I.hok eb) dd hp ?_
    rw [hp2]
    exact h w' _ (I.tok _) rw'
/-- y in d -/
theorem d_in {Q : Value → Shared → Prop} (hu : A.units + 1 < cLine) (I : Inv X pins σ H s) (g : DGet H a y o) (ry : RelV y u) (h : ∀ s', Inv X pins σ H s' → Q (.bool o.isSome) s') :
    wpAny (model X.prog X.w) A (compareOp .In u (.ref a)) Q E s := by
  rcases g with ⟨kvs, k, e, ey, l⟩ | ⟨kvs, k, b, e, ey, eb, l⟩
  · subst ey
    obtain ⟨z, hd, vs, rel, dd⟩ := dk_rd I.hok e
    refine wpAny_in_of (kV_is ry) hd dd.mapOf ?_
    rw [← (rel.val k).isSome_eq, ← l]
    exact h _ (I.tok _)
  · subst ey
    cases (show u = Value.ref b from ry)
    obtain ⟨z, hd, xs, rel, dd⟩ := dt_rd I.hok e
    refine wpAny_in_heap (tupleKind_room_in1 hu) (key_of I.hok eb) hd dd ?_
    have q := (rel.val k).isSome_eq
    rw [Option.isSome_map] at q
    rw [← q, ← l]
    exact h _ (I.tok _)
theorem d_notIn {Q : Value → Shared → Prop} (hu : A.units + 1 < cLine) (I : Inv X pins σ H s) (g : DGet H a y o) (ry : RelV y u) (h : ∀ s', Inv X pins σ H s' → Q (.bool (!o.isSome)) s') :
    wpAny (model X.prog X.w) A (compareOp .NotIn u (.ref a)) Q E s := by
  rcases g with ⟨kvs, k, e, ey, l⟩ | ⟨kvs, k, b, e, ey, eb, l⟩
  · subst ey
    obtain ⟨z, hd, vs, rel, dd⟩ := dk_rd I.hok e
    refine wpAny_notIn_of (kV_is ry) hd dd.mapOf ?_
    rw [← (rel.val k).isSome_eq, ← l]
    exact h _ (I.tok _)
  · subst ey
    cases (show u = Value.ref b from ry)
    obtain ⟨z, hd, xs, rel, dd⟩ := dt_rd I.hok e
    refine wpAny_notIn_heap (tupleKind_room_in1 hu) (key_of I.hok eb) hd dd ?_
    have q := (rel.val k).isSome_eq
    rw [Option.isSome_map] at q
    rw [← q, ← l]
    exact h _ (I.tok _)
/-- a dict's object is replaced -/
theorem d_write {h' : Heap} {t' : Nat} {ob : HO} (I : Inv X pins σ H s) (mu : Mut (H a)) (hs : Heap.SameBut a s.heap h') (he : ∃ q, h'.get? a = some q) (new : ObjOk X.prog X.w (upd H a ob) h' a ob) :
    Inv X pins σ (upd H a ob) { s with heap := h', toks := t' } :=
  I.write (x := a) (e := a) mu (.inl rfl) (fun b q hb z => (hs.2 b hb).trans z) he new
theorem dk_new {P : Program} {w : World} {H' : Hp} {h' : Heap} {kvs : List (Key × V)} {vs : List (Key × Value)} (z : kvs.length ≤ sizeLine) (hd : (a == sysModules) = false) (rel : KV kvs vs) (dd : h'.DictOf (mixKind P w) a vs) :
    ObjOk P w H' h' a (.dK kvs) := ⟨z, hd, vs, rel, dd⟩
/-- d[y] = v -/
theorem d_setItem {H' : Hp} {Q : Unit → Shared → Prop} (hu : A.units + 1 < cLine) (I : Inv X pins σ H s) (g : DPut H a y v H') (ry : RelV y u) (rv : RelV v r) (h : ∀ s', Inv X pins σ H' s' → Q () s') :
    wpAny (model X.prog X.w) A (setItem (.ref a) u r) Q E s := by
  rcases g with ⟨kvs, k, e, ey, l, eH⟩ | ⟨kvs, k, b, e, ey, eb, l, eH⟩
  · subst ey eH
    obtain ⟨z, hd, vs, rel, dd⟩ := dk_of I.hok e
    have hz : vs.length ≤ sizeLine := by rw [← rel.length]; exact z
    have hl : (putK kvs k v).length ≤ sizeLine := by have := length_putK kvs k v; omega
    refine wpAny_setItem_pairs (hsz := hz) (kV_is ry) dd fun h' dd' hs => h _ ?_
    have he : ∃ q, h'.get? a = some q := let ⟨q, _, _, hq, _⟩ := dd'; ⟨q, hq⟩
    exact d_write I (by rw [e]; exact True.intro) hs he (dk_new hl hd (rel.put k rv) dd')
  · subst ey eH
    cases (show u = Value.ref b from ry)
    obtain ⟨z, hd, xs, rel, dd⟩ := dt_of I.hok e
    have hz : xs.length ≤ sizeLine := by rw [← Paired.length rel]; exact z
    have hl : (putK kvs k v).length ≤ sizeLine := by have := length_putK kvs k v; omega
    refine wpAny_setItem_heap (hsz := hz) (tupleKind_room_in1 hu) (key_of I.hok eb) dd fun h' dd' hs => h _ ?_
    obtain ⟨q, es, ep, hq, h2, h3, h4, _, h5⟩ := dd'
    refine d_write I (by rw [e]; exact True.intro) hs ⟨q, hq⟩ ⟨hl, hd, _, (rel.put k eb rv).keeps fun c ys ec => ?_, q, es, ep, hq, h2, h3, h4, h5⟩
    rw [upd_ne (ne_of ec e (fun z => nomatch z))]
    exact ec
end

section
variable {X : Cx} {pins : List (Addr × Obj)} {σ : St} {H : Hp} {s : Shared} {a : Addr} {kvs : List (Key × V)} {k : Key} {u : Value} {A : Around} {E : Value → Shared → Prop}
end


/-! ### readings and rules -/
/-- the element of a subscription, not a slice -/
def NoSl (i : Expr) : Prop := ∀ ov iv, subscripted i false ov iv = operate [ov, iv] (getItem ov iv)
theorem subD_of {prog : Program} {w : World} {A : Around} {E : Value → Shared → Prop} {s : Shared} {env : Env} {value slice : Expr} {pos : Pos} {T id : String} {Q : Value → Shared → Prop}
    (hl : typeLookup (.type T) "__getitem__" = pure (some (.builtin id))) (hs : NoSl slice)
    (h : wpAny (model prog w) A (eval value env) (fun o s₁ => wpAny (model prog w) A (eval slice env) (fun i s₂ => s₂.TypeIs o T ∧ wpAny (model prog w) A (getItem o i) Q E s₂) E s₁) E s) :
    wpAny (model prog w) A (eval (.Subscript value slice pos) env) Q E s := by
  refine Subscript_ (wpAny_mono h (fun o s₁ h₁ => wpAny_mono h₁ (fun i s₂ h₂ => ?_) fun _ _ x => x) fun _ _ x => x)
  obtain ⟨hT, h₂⟩ := h₂
  unfold subscriptTail
  refine wpAny_bind ?_
  rw [getitemInPython_of_ne hT.not_modules]
  refine wpAny_bind (wpAny_specialOf hT hl ?_)
  have fin : wpAny (model prog w) A (subscripted slice false o i) (fun r s₃ => wpAny (model prog w) A (letTemporaryGo value o r >>= fun _ => pure r) Q E s₃) E s₂ := by
    rw [hs o i]
    exact wpAny_operating (wpAny_mono h₂ (fun r s₃ h₃ => wpAny_bind (wpAny_letTemporaryGo (wpAny_pure h₃))) fun _ _ x => x)
  first
    | exact wpAny_pure (wpAny_bind fin)
    | exact wpAny_bind (wpAny_pure (wpAny_bind fin))
    | exact wpAny_bind fin

theorem dict_typeIs {X : Cx} {pins : List (Addr × Obj)} {σ : St} {H : Hp} {s : Shared} {a : Addr} {y : V} {o : Option V} (I : Inv X pins σ H s) (g : DGet H a y o) : s.TypeIs (.ref a) "dict" := by
  rcases g with ⟨kvs, k, e, _, _⟩ | ⟨kvs, k, b, e, _, _, _⟩
  · obtain ⟨_, _, vs, _, dd⟩ := dk_rd I.hok e
    exact dd.typeIs
  · obtain ⟨_, _, xs, _, dd⟩ := dt_rd I.hok e
    exact dd.typeIs
/-- d[y] -/
def tDGet (td ty : TE) : TE := fun σ H Q => td σ H fun x H1 => ty σ H1 fun y H2 => ∃ a v, x = .ref a ∧ DGet H2 a y (some v) ∧ Q v H2
/-- y in d, y not in d -/
def tDIn (ty td : TE) : TE := fun σ H Q => ty σ H fun y H1 => td σ H1 fun x H2 => ∃ a o, x = .ref a ∧ DGet H2 a y o ∧ Q (.bl o.isSome) H2
def tDNotIn (ty td : TE) : TE := fun σ H Q => ty σ H fun y H1 => td σ H1 fun x H2 => ∃ a o, x = .ref a ∧ DGet H2 a y o ∧ Q (.bl (!o.isSome)) H2
/-- d[y] = v -/
def sDPut (td ty tv : TE) : TS := fun D σ H => tv σ H fun v H1 => td σ H1 fun x H2 => ty σ H2 fun y H3 => ∃ a H4, x = .ref a ∧ DPut H3 a y v H4 ∧ D.nx σ H4
/-- d[y] op= v -/
def sDAug (td ty tv : TE) (rd : V → V → Hp → VK → Prop) : TS := fun D σ H => td σ H fun x H1 => ty σ H1 fun y H2 => ∃ a v, x = .ref a ∧ DGet H2 a y (some v) ∧
  tv σ H2 fun y2 H3 => rd v y2 H3 fun z H4 => ∃ H5, DPut H4 a y z H5 ∧ D.nx σ H5
/-- del d[y] -/
def sDDel (td ty : TE) : TS := fun D σ H => td σ H fun x H1 => ty σ H1 fun y H2 => ∃ a kvs k, x = .ref a ∧ H2 a = some (.dK kvs) ∧ y = kV k ∧ (valV kvs k).isSome = true ∧ D.nx σ (upd H2 a (.dK (dropK kvs k)))

section
variable {X : Cx} {o i e value : Expr} {pos pos' tpos : Pos} {td ty tv : TE}
theorem pe_dget (hu : X.A.units + 1 < cLine) (ho : PE X o td) (hi : PE X i ty) (hs : NoSl i) : PE X (.Subscript o i pos) (tDGet td ty) := by
  intro pins s σ H Q I h
  refine subD_of PySem.F.slot_dict_getitem.lookup hs (thn (ho pins s σ H _ I h) fun u s1 ⟨x, H1, I1, rx, q1⟩ => thn (hi pins s1 σ H1 _ I1 q1) fun iv s2 ⟨y, H2, I2, ry, a, v, ex, g, q2⟩ => ?_)
  subst ex
  obtain rfl : u = Value.ref a := rx
  exact ⟨dict_typeIs I2 g, d_getItem hu I2 g ry fun w' s3 I3 rw' => ⟨v, H2, I3, rw', q2⟩⟩
theorem pc_din (hu : X.A.units + 1 < cLine) (hi : PE X i ty) (ho : PE X o td) : PC X .In i o (tDIn ty td) := by
  intro pins s σ H Q I h
  refine thn (hi pins s σ H _ I h) fun iv s1 ⟨y, H1, I1, ry, q1⟩ => thn (ho pins s1 σ H1 _ I1 q1) fun u s2 ⟨x, H2, I2, rx, a, ov, ex, g, q2⟩ => ?_
  subst ex
  obtain rfl : u = Value.ref a := rx
  exact d_in hu I2 g ry fun s3 I3 => ⟨.bl ov.isSome, H2, I3, rfl, q2⟩
theorem pc_dnotin (hu : X.A.units + 1 < cLine) (hi : PE X i ty) (ho : PE X o td) : PC X .NotIn i o (tDNotIn ty td) := by
  intro pins s σ H Q I h
  refine thn (hi pins s σ H _ I h) fun iv s1 ⟨y, H1, I1, ry, q1⟩ => thn (ho pins s1 σ H1 _ I1 q1) fun u s2 ⟨x, H2, I2, rx, a, ov, ex, g, q2⟩ => ?_
  subst ex
  obtain rfl : u = Value.ref a := rx
  exact d_notIn hu I2 g ry fun s3 I3 => ⟨.bl (!ov.isSome), H2, I3, rfl, q2⟩
theorem ps_dput (hu : X.A.units + 1 < cLine) (ho : PE X o td) (hi : PE X i ty) (hv : PE X value tv) (hs : swapsWith value (some (.Subscript o i pos')) pos.line X.env = pure false) :
    PS X (.Assign [.Subscript o i pos'] value pos) (sDPut td ty tv) := by
  intro pins s σ H D I h
  refine wpAny_Assign_Subscript (thn (hv pins s σ H _ I h) fun r s1 ⟨v, H1, I1, rv, q1⟩ => thn (ho pins s1 σ H1 _ I1 q1) fun u s2 ⟨x, H2, I2, rx, q2⟩ => thn (hi pins s2 σ H2 _ I2 q2) fun iv s3 ⟨y, H3, I3, ry, a, H4, ex, g, q3⟩ => ?_) hs
  subst ex
  obtain rfl : u = Value.ref a := rx
  exact d_setItem hu I3 g ry rv fun s4 I4 => ⟨σ, H4, I4, q3⟩
end


/-! ### displays -/
theorem dk_empty {P : Program} {w : World} {H : Hp} (h : Heap) (hb : sysModules < h.objs.size) : ObjOk P w H (h.push { cls := .type "dict", data := .dict #[] }) h.objs.size (.dK []) :=
  ⟨Nat.zero_le _, beq_eq_false_iff_ne.mpr (Ne.symm (Nat.ne_of_lt hb)), [], .nil, Heap.DictOf.new h⟩
/-- {}, to be a dict of the kind that is wanted -/
def tDNewK : TE := fun _ H Q => ∀ p, H p = none → Q (.ref p) (upd H p (.dK []))
def tDNewT : TE := fun _ H Q => ∀ p, H p = none → Q (.ref p) (upd H p (.dT []))
section
variable {X : Cx} {pos : Pos}
end

/-- the pairs of a display, from the left -/
def tPairs : List (TE × TE) → St → Hp → (List (V × V) → Hp → Prop) → Prop
  | [], _, H, Q => Q [] H
  | (tk, tv) :: r, σ, H, Q => tk σ H fun x H1 => tv σ H1 fun y H2 => tPairs r σ H2 fun ps H3 => Q ((x, y) :: ps) H3
abbrev VV : List (V × V) → List (Value × Value) → Prop := Paired fun p q => RelV p.1 q.1 ∧ RelV p.2 q.2
def PPs (X : Cx) (pos : Pos) (keys : List (Option Expr)) (values : List Expr) (trs : List (TE × TE)) : Prop :=
  ∀ (pins : List (Addr × Obj)) (s : Shared) (σ : St) (H : Hp) (Q : List (V × V) → Hp → Prop), Inv X pins σ H s → tPairs trs σ H Q →
    wpAny (model X.prog X.w) X.A (evalPairs (pairTrees keys values X.env pos)) (fun vs s' => ∃ ps H', Inv X pins σ H' s' ∧ VV ps vs ∧ Q ps H') X.xe s
theorem pps_nil {X : Cx} {pos : Pos} : PPs X pos [] [] [] := fun pins s σ H Q I h => pairTrees_nil_walk ⟨[], H, I, .nil, h⟩
theorem pps_cons {X : Cx} {pos : Pos} {k v : Expr} {ks : List (Option Expr)} {vs : List Expr} {tk tv : TE} {trs : List (TE × TE)} (hk : PE X k tk) (hv : PE X v tv) (hr : PPs X pos ks vs trs) :
    PPs X pos (some k :: ks) (v :: vs) ((tk, tv) :: trs) := fun pins s σ H Q I h =>
  pairTrees_cons_walk (thn (hk pins s σ H _ I h) fun u s1 ⟨x, H1, I1, rx, q1⟩ => thn (hv pins s1 σ H1 _ I1 q1) fun w2 s2 ⟨y, H2, I2, ry, q2⟩ =>
    thn (hr pins s2 σ H2 _ I2 q2) fun ws s3 ⟨ps, H3, I3, rel, q3⟩ => ⟨(x, y) :: ps, H3, I3, .cons ⟨rx, ry⟩ rel, q3⟩)

def mergeK (kvs more : List (Key × V)) : List (Key × V) := more.foldl (fun acc kv => putK acc kv.1 kv.2) kvs
theorem KV.merge : ∀ {more : List (Key × V)} {rs : List (Key × Value)} {kvs : List (Key × V)} {vs : List (Key × Value)}, KV more rs → KV kvs vs → KV (mergeK kvs more) (merged vs rs) := by
  intro more rs kvs vs r
  unfold KV at r
  induction r generalizing kvs vs with
  | nil => intro q; exact q
  | @cons p q ps qs h t ih =>
    intro r0
    have e : KV (putK kvs p.1 p.2) (stored vs q.1 q.2) := by
      have := r0.put p.1 h.2
      rw [← h.1]; exact this
    exact ih e
theorem length_mergeK : ∀ (more kvs : List (Key × V)), (mergeK kvs more).length ≤ kvs.length + more.length
  | [], kvs => by show kvs.length ≤ kvs.length + 0; omega
  | p :: r, kvs => by
    have h1 := length_mergeK r (putK kvs p.1 p.2)
    have h2 := length_putK kvs p.1 p.2
    show (mergeK (putK kvs p.1 p.2) r).length ≤ _
    rw [List.length_cons]; omega
theorem carries_of {P : Program} {w : World} : ∀ {kvs : List (Key × V)} {ws : List (Value × Value)}, VV (kvs.map fun kv => (kV kv.1, kv.2)) ws → ∃ rs, Carries (mixKind P w) ws rs ∧ KV kvs rs
  | [], _, r => by rw [List.map_nil] at r; cases r; exact ⟨[], True.intro, .nil⟩
  | p :: kvs, _, r => by
    rw [List.map_cons] at r
    cases r with
    | @cons a b as bs h t =>
      obtain ⟨rs, c, q⟩ := carries_of (P := P) (w := w) t
      obtain ⟨b1, b2⟩ := b
      exact ⟨(p.1, b2) :: rs, ⟨kV_is h.1, rfl, c⟩, .cons ⟨rfl, h.2⟩ q⟩
/-- {k: v, ..} with keys ints and texts; the new dict stands empty while the pairs are made -/
def tDisp (trs : List (TE × TE)) : TE := fun σ H Q => ∀ p, H p = none → tPairs trs σ (upd H p (.dK [])) fun ps H2 => H2 p = some (.dK []) ∧ ∃ kvs : List (Key × V), ps = kvs.map (fun kv => (kV kv.1, kv.2)) ∧ kvs.length ≤ 15 ∧ Q (.ref p) (upd H2 p (.dK (mergeK [] kvs)))
theorem pe_disp {X : Cx} {pos : Pos} {keys : List (Option Expr)} {values : List Expr} {trs : List (TE × TE)} (h : PPs X pos keys values trs) (hall : keys.all (·.isSome) = true) (hl : keys.length = values.length) (h0 : keys ≠ [])
    (h15 : keys.length ≤ 15) : PE X (.Dict keys values pos) (tDisp trs) := by
  intro pins s σ H Q I q
  have hn := I.hok.fresh (Nat.le_refl s.heap.objs.size)
  have I1 := I.laid (a := s.heap.objs.size) (o := .dK []) (h' := s.heap.push { cls := .type "dict", data := .dict #[] }) (t' := s.toks) (fun _ _ q => Heap.get?_push_of_some _ q) (Nat.le_refl _) (dk_empty s.heap I.big)
  refine wpAny_Dict_walk (knd := mixKind X.prog X.w) hall hl h0 h15 (thn (h pins _ σ _ _ I1 (q _ hn)) fun ws s2 ⟨ps, H2, I2, rel, e, kvs, ep, lk, q2⟩ => ?_)
  subst ep
  obtain ⟨rs, c, rk⟩ := carries_of (P := X.prog) (w := X.w) rel
  obtain ⟨z, hd, vs0, r0, dd⟩ := dk_of I2.hok e
  cases r0
  refine ⟨rs, c, dd, fun h' dd' hs => ⟨.ref s.heap.objs.size, _, ?_, rfl, q2⟩⟩
  have hz : (mergeK [] kvs).length ≤ sizeLine := by
    have h1 := length_mergeK kvs []
    rw [List.length_nil] at h1
    rw [sizeLine_eq]; omega
  have he : ∃ q, h'.get? s.heap.objs.size = some q := let ⟨q, _, _, hq, _⟩ := dd'; ⟨q, hq⟩
  exact d_write I2 (by rw [e]; exact True.intro) hs he (dk_new hz hd (rk.merge .nil) dd')


/-! ### methods -/
/-- a method call o.m(e) of a built-in, with one argument: what must be seen of the text -/
structure M1 (X : Cx) (o : Expr) (m : Str) (apos : Pos) (e : Expr) (cpos : Pos) : Prop where
  base : attributeBase o m X.env (eval o X.env) = eval o X.env
  few : ((backTo cpos (starEach [e] X.env)).all (fun x => !x.1) && (backToKw cpos (keywordEach [] X.env)).all (fun x => x.1.isSome)
    && decide (([e] : List Expr).length + ([] : List Keyword).length + (if ([] : List Keyword).isEmpty then 0 else 1) < 30)) = true
  line : (apos.endLine == cpos.line) = true
  trees : backTo cpos (starEach [e] X.env) = [(false, eval e X.env)]
structure M2 (X : Cx) (o : Expr) (m : Str) (apos : Pos) (e f : Expr) (cpos : Pos) : Prop where
  base : attributeBase o m X.env (eval o X.env) = eval o X.env
  few : ((backTo cpos (starEach [e, f] X.env)).all (fun x => !x.1) && (backToKw cpos (keywordEach [] X.env)).all (fun x => x.1.isSome)
    && decide (([e, f] : List Expr).length + ([] : List Keyword).length + (if ([] : List Keyword).isEmpty then 0 else 1) < 30)) = true
  line : (apos.endLine == cpos.line) = true
  trees : backTo cpos (starEach [e, f] X.env) = [(false, eval e X.env), (false, eval f X.env)]

/-- a is a dict, whatever its keys -/
def IsD (H : Hp) (a : Addr) : Prop := (∃ kvs, Rd H a (.dK kvs)) ∨ ∃ kvs, Rd H a (.dT kvs)
section
variable {X : Cx} {pins : List (Addr × Obj)} {σ : St} {H : Hp} {s : Shared} {a : Addr} {y d : V} {u r : Value} {o : Option V} {A : Around} {E : Value → Shared → Prop}
end

def tDGet1 (td ty : TE) : TE := fun σ H Q => td σ H fun x H1 => ∃ a, x = .ref a ∧ IsD H1 a ∧ ty σ H1 fun y H2 => ∃ o, DGet H2 a y o ∧ Q (o.getD .non) H2
def tDGet2 (td ty tx : TE) : TE := fun σ H Q => td σ H fun x H1 => ∃ a, x = .ref a ∧ IsD H1 a ∧ ty σ H1 fun y H2 => tx σ H2 fun z H3 => ∃ o, DGet H3 a y o ∧ Q (o.getD z) H3
/-- d.pop(k): there; d.pop(k, x): there or not -/
def tDPop1 (td ty : TE) : TE := fun σ H Q => td σ H fun x H1 => ∃ a, x = .ref a ∧ IsD H1 a ∧ ty σ H1 fun y H2 => ∃ kvs k v, H2 a = some (.dK kvs) ∧ y = kV k ∧ valV kvs k = some v ∧ Q v (upd H2 a (.dK (dropK kvs k)))
def tDPop2 (td ty tx : TE) : TE := fun σ H Q => td σ H fun x H1 => ∃ a, x = .ref a ∧ IsD H1 a ∧ ty σ H1 fun y H2 => tx σ H2 fun z H3 => ∃ kvs k, H3 a = some (.dK kvs) ∧ y = kV k ∧
  (∀ v, valV kvs k = some v → Q v (upd H3 a (.dK (dropK kvs k)))) ∧ (valV kvs k = none → Q z H3)
section
variable {X : Cx} {o e f : Expr} {apos cpos : Pos} {td ty tx : TE}
end

/-! ### dict(d): a copy -/
section
variable {X : Cx} {pins : List (Addr × Obj)} {σ : St} {H : Hp} {s : Shared} {a : Addr} {kvs : List (Key × V)} {A : Around} {E : Value → Shared → Prop}
end


section
variable {X : Cx} {pins : List (Addr × Obj)} {σ : St} {H : Hp} {s : Shared} {a : Addr} {y : V} {u : Value} {A : Around} {E : Value → Shared → Prop}
end
end L2

namespace L2
open PySem PySem.Spec PyProof.Rows
section
variable {X : Cx}
end
end L2
namespace L2
open PySem PySem.Spec PyProof.Rows
/-! ### a dict's pairs: keys that differ -/
section
variable {κ : Type} [DecidableEq κ]
theorem valV_not {kvs : List (κ × V)} {k : κ} (h : valV kvs k = none) : ¬ k ∈ kvs.map (·.1) := by
  intro m
  obtain ⟨p, hp, e⟩ := List.mem_map.mp m
  have q : (kvs.any fun kv => decide (kv.1 = k)) = true := List.any_eq_true.mpr ⟨p, hp, decide_eq_true e⟩
  rw [valV_any, h] at q
  exact absurd q (by simp)
theorem valV_in {kvs : List (κ × V)} {k : κ} {v : V} (h : valV kvs k = some v) : k ∈ kvs.map (·.1) := by
  have q : (kvs.any fun kv => decide (kv.1 = k)) = true := by
    rw [valV_any, h]
    all_goals rfl
  obtain ⟨p, hp, e⟩ := List.any_eq_true.mp q
  exact List.mem_map.mpr ⟨p, hp, of_decide_eq_true e⟩
theorem nd_snoc : ∀ {l : List κ} {k : κ}, l.Nodup → ¬ k ∈ l → (l ++ [k]).Nodup
  | [], k, _, _ => by simp
  | a :: r, k, h, hk => by
    obtain ⟨h1, h2⟩ := List.nodup_cons.mp h
    show (a :: (r ++ [k])).Nodup
    refine List.nodup_cons.mpr ⟨fun m => ?_, nd_snoc h2 fun m => hk (List.mem_cons.mpr (Or.inr m))⟩
    rcases List.mem_append.mp m with q | q
    · exact h1 q
    · exact hk (List.mem_cons.mpr (Or.inl (List.mem_singleton.mp q).symm))
theorem nd_putK {kvs : List (κ × V)} {k : κ} (v : V) (hn : (kvs.map (·.1)).Nodup) (h : valV kvs k = none) : ((putK kvs k v).map (·.1)).Nodup := by
  rw [putK_new v h, List.map_append]
  exact nd_snoc hn (valV_not h)
end
end L2

namespace L2
open PySem PySem.Spec PyProof.Rows
section
variable {X : Cx} {pins : List (Addr × Obj)} {σ : St} {H : Hp} {s : Shared} {h' : Heap}
/-- two untracked records of ours have turned, a new object is laid and tracked -/
theorem Inv.turned2 {t' : Nat} {e it a : Addr} {o : HO} (I : Inv X pins σ H s) (k : ∀ b u, b ≠ e → b ≠ it → s.heap.get? b = some u → h'.get? b = some u) (fe : FpOk X pins H e) (fi : FpOk X pins H it) (hp : s.heap.objs.size ≤ a) (new : ObjOk X.prog X.w (upd H a o) h' a o) :
    Inv X pins σ (upd H a o) { s with heap := h', toks := t' } := by
  have ha := I.hok.fresh hp
  have nE : ∀ b u, H b = some u → b ≠ e := fun b u q z => by rw [z, fe.1] at q; cases q
  have nI : ∀ b u, H b = some u → b ≠ it := fun b u q z => by rw [z, fi.1] at q; cases q
  have kc : ∀ b u, b ∉ [e, it] → s.heap.get? b = some u → h'.get? b = some u := fun b u hb q => k b u (fun z => hb (by simp [z])) (fun z => hb (by simp [z])) q
  refine I.step (g' := s.gens) (d' := s.drawn) (ch := [e, it]) (fun b hb => ?_) (fun b o _ _ hc q _ => kc b o hc q) (fun b o _ _ hc q _ => ⟨o.slots, kc b o hc q⟩) (fun b u hb q n => ?_)
    (fun b o hc q => ⟨o, kc b o hc q⟩) (fun b xs q => ?_) (fun b u v q => ?_) (fun b ps q => ⟨#[], ?_⟩) (fun m hm => ?_) (fun b u q => ?_) I.bare
  · rcases List.mem_cons.mp hb with rfl | hb
    · exact ⟨fe.2.2.2.1, fe.2.1, fe.2.2.2.2.1, fe.2.2.2.2.2⟩
    · rw [List.mem_singleton.mp hb]
      exact ⟨fi.2.2.2.1, fi.2.1, fi.2.2.2.2.1, fi.2.2.2.2.2⟩
  · rw [upd_ne (Nat.ne_of_lt (Nat.lt_of_lt_of_le (Heap.lt_size q) hp))]
    exact n
  · rw [upd_ne (ne_of_none q ha)]
    exact q
  · rw [upd_ne (ne_of_none q ha)]
    exact q
  · rw [upd_ne (ne_of_none q ha), q]
    simp
  · obtain ⟨ob, es, ep, ho, r⟩ := hm
    exact ⟨ob, es, ep, k _ ob (Ne.symm fe.2.1) (Ne.symm fi.2.1) ho, r⟩
  · by_cases hb : b = a
    · subst hb
      rw [upd_same] at q
      cases q
      exact new
    · rw [upd_ne hb] at q
      refine (I.hok b u q).stay (fun c v hc z => k c v ?_ ?_ z) (fun c z => by rw [upd_ne (ne_of_none z ha)]; exact z) fun c xs z => by rw [upd_ne (ne_of_none z ha)]; exact z
      · rcases hc with y | y
        · rw [y]; exact nE b u q
        · exact nE c _ y
      · rcases hc with y | y
        · rw [y]; exact nI b u q
        · exact nI c _ y
end
/-! ### enumerate(list) with a written pair as target -/
def Ite (K : PySem.W.Frag) (a : Addr) : It :=
  ⟨fun i H => ∃ xs x, SqL K H a xs ∧ xs[i]? = some x, fun i H v H' => ∃ T x, v = .ref T ∧ H T = none ∧ (∀ xs, SqL K H a xs → xs[i]? = some x) ∧ H' = upd H T (.tup [.int i, x]), fun i H => ∃ xs, SqL K H a xs ∧ xs.length ≤ i⟩
theorem turn_enum {P : Program} {w : World} {K : PySem.W.Frag} {es : List Expr} {k : Nat} {pos : Pos} (a it e : Addr) (hne : e ≠ it) : Turn P w K (.Tuple es k pos) (Ite K a) [e, it] e (fun i h => (∃ old, IsEnum h e it (i : Nat) old) ∧ h.IsListIter it a i) where
  mem := by simp
  obj := fun i h st b hb => by
    obtain ⟨⟨old, he⟩, o, e1, c, d⟩ := st
    rcases List.mem_cons.mp hb with rfl | hb
    · exact ⟨_, he, fun v z => by have z' : Data.fields _ = Data.cell v := z; cases z'⟩
    · rw [List.mem_singleton.mp hb]
      exact ⟨o, e1, fun v z => by rw [d] at z; cases z⟩
  keep := fun i h h' st k => by
    obtain ⟨⟨old, he⟩, hi⟩ := st
    exact ⟨⟨old, k e (by simp) _ he⟩, hi.at fun o q => k it (by simp) o q⟩
  item := by
    intro X hP hw hK hc i pins s σ H E I hf st hg
    subst hP hw hK
    obtain ⟨xs, x, hq, hx⟩ := hg
    obtain ⟨its, rv, p, hz⟩ := I.list hq
    obtain ⟨u, hu, ru⟩ := rv.get hx
    obtain ⟨⟨old, he⟩, hit⟩ := st
    have fe := hf e (by simp)
    have fi := hf it (by simp)
    have hel : e < s.heap.objs.size := Heap.lt_size he
    have hil : it < s.heap.objs.size := by obtain ⟨o, q, _⟩ := hit; exact Heap.lt_size q
    refine wpAny_pyNext_enum_item he hit p.isList (x := u) (by simpa using hu) hne fun h1 heo hit1 ht1 hz1 hk1 => ?_
    refine ⟨.ref s.heap.objs.size, rfl, wpAny_letOwnedTupleGo_enum heo fun h2 he2 hs2 => ?_⟩
    replace hs2 : Heap.SameBut e h1 h2 := hs2
    have hT : H s.heap.objs.size = none := I.hok.fresh (Nat.le_refl _)
    have ht2 : h2.get? s.heap.objs.size = some { cls := .type "tuple", data := .seq #[.int i s.toks, u] } := (hs2.2 _ (Nat.ne_of_gt hel)).trans ht1
    refine ⟨.ref s.heap.objs.size, upd H s.heap.objs.size (.tup [.int i, x]), ?_, rfl, ⟨_, x, rfl, hT, fun ys hy => by rw [I.list_inj hy hq]; exact hx, rfl⟩, ⟨⟨u, by simpa using he2⟩, hit1.at fun o q => (hs2.2 it (Ne.symm hne)).trans q⟩, fun b hb => ?_⟩
    · exact I.turned2 (fun b o h1 h2 q => (hs2.2 b h1).trans (hk1 b o h1 h2 q)) fe fi (Nat.le_refl _) ⟨(by decide : 2 ≤ sizeLine), [.int i s.toks, u], .cons ⟨_, rfl⟩ (.cons ru .nil), ⟨_, ht2, rfl, _, rfl⟩⟩
    · have hb' : b < s.heap.objs.size := by
        rcases List.mem_cons.mp hb with rfl | hb
        · exact hel
        · rw [List.mem_singleton.mp hb]; exact hil
      rw [upd_ne (Nat.ne_of_lt hb')]
      exact (hf b hb).1
  done := by
    intro X hP hw hK hc i pins s σ H E I hf st hg
    subst hP hw hK
    obtain ⟨xs, hq, hx⟩ := hg
    obtain ⟨its, rv, p, hz⟩ := I.list hq
    obtain ⟨⟨old, he⟩, hit⟩ := st
    obtain ⟨f0, f1, f2, f3, f4, f5⟩ := hf it (by simp)
    have hl := rv.length
    exact wpAny_pyNext_enum_end (I.ok.hd hc) he hit p.isList (by simp; omega) fun h' eb => ⟨rfl, I.turned (t' := s.toks) (fun b o hb e => eb b o hb e) f0 f1 f3 f4 f5⟩
  self := fun _ _ _ _ _ st h => by
    obtain ⟨⟨old, he⟩, _⟩ := st
    exact wpAny_pyIter_enum he h
section
variable {X : Cx}
def iEnum (K : PySem.W.Frag) (ta : TA) : TI := fun σ H R => ta σ H fun vs H1 => ∃ a, vs = [.ref a] ∧ (∃ xs, SqL K H1 a xs) ∧ R (Ite K a) H1
theorem pi_enum {a : Expr} {ta : TA} {p pos : Pos} {es : List Expr} {k : Nat} {tpos : Pos} (hg : Gl X "enumerate") (hm : X.mg "enumerate" = none) (ha : PA X [a] ta) (hs : starEach [a] X.env = [(false, eval a X.env)] := by rfl) : PI X (.Tuple es k tpos) (.Call (.Name "enumerate" p) [a] [] pos) (iEnum X.K ta) := by
  intro pins s σ H R I h
  refine Call_ (ld_blt I hg hm boot_enumerate (PyProof.Rows.callWith_type1 (thn (ha pos pins s σ H _ I h) fun us s1 ⟨vs, H1, I1, r1, q1⟩ => ?_) hs rfl))
  obtain ⟨l, e, ⟨xs, hq⟩, q⟩ := q1
  subst e
  cases r1 with
  | cons r rr =>
    cases rr
    cases r
    obtain ⟨its, rv, pl, hz⟩ := I1.list hq
    refine call_enumerate_list pl.isList fun h' he hi hsz kp => ?_
    have I2 : Inv X pins σ H1 { s1 with heap := h' } := I1.kept (t' := s1.toks) kp
    refine wpAny_pyIter_enum he ?_
    refine ⟨_, [s1.heap.objs.size + 1, s1.heap.objs.size], _, _, H1, rfl, I2, turn_enum l s1.heap.objs.size (s1.heap.objs.size + 1) (Nat.succ_ne_self _), ⟨⟨_, he⟩, hi⟩, fun b hb => ?_, q⟩
    have hb' : s1.heap.objs.size ≤ b := by
      rcases List.mem_cons.mp hb with rfl | hb
      · exact Nat.le_succ _
      · rw [List.mem_singleton.mp hb]; exact Nat.le_refl _
    obtain ⟨y0, y1, y2, y3, y4, y5⟩ := I1.fpOk (H' := H1) hb' (I1.hok.fresh hb')
    exact ⟨y0, y1, y2, y3, y4, y5⟩
/-! ### range(a, b, -1) -/
def Itd (hi : Int) (n : Nat) : It := ⟨fun i _ => i < n, fun i H x H' => H' = H ∧ x = .int (hi - i), fun i _ => n ≤ i⟩
theorem turn_down {P : Program} {w : World} {K : PySem.W.Frag} {tg : Expr} (it : Addr) (hi : Int) (n : Nat) : Turn P w K tg (Itd hi n) [it] it (fun i h => IsRangeIter h it (hi + (i : Nat) * (-1)) ((n : Int) - (i : Nat)) (-1)) where
  mem := by simp
  obj := fun i h st b hb => by
    have e : b = it := by simpa using hb
    subst e
    exact ⟨_, st, fun v z => by
      have z' : Data.fields _ = Data.cell v := z
      cases z'⟩
  keep := fun i h h' st k => k it (by simp) _ st
  item := by
    intro X hP hw hK hc i pins s σ H E I hf st hg
    subst hP hw hK
    obtain ⟨f0, f1, f2, f3, f4, f5⟩ := hf it (by simp)
    have W := Walks.range (prog := X.prog) (w := X.w) (I.ok.hd hc) it hi (-1) n
    refine W.item i s _ _ hg st fun v h' tk hv st' kk => ?_
    obtain ⟨t, rfl⟩ := hv
    have I1 : Inv X pins σ H { s with heap := h', toks := tk } := I.turned (fun b o hb e => kk b o (by simpa using hb) e) f0 f1 f3 f4 f5
    refine ⟨_, rfl, go_of (s := { s with heap := h', toks := tk }) (n := "range_iterator") st' rfl rfl (by decide) ⟨.int (hi - i), H, I1, ⟨t, ?_⟩, ⟨rfl, rfl⟩, st', fun b hb => (hf b hb).1⟩⟩
    rw [show hi + (i : Int) * (-1) = hi - i by omega]
  done := by
    intro X hP hw hK hc i pins s σ H E I hf st hg
    subst hP hw hK
    obtain ⟨f0, f1, f2, f3, f4, f5⟩ := hf it (by simp)
    exact wpAny_pyNext_range_end (I.ok.hd hc) st (by have : n ≤ i := hg; omega) fun h' eb => ⟨rfl, I.turned (t' := s.toks) (fun b o hb e => eb b o hb e) f0 f1 f3 f4 f5⟩
  self := fun _ _ _ _ _ st h => wpAny_pyIter_rangeiter st h
def iRngD (ta : TA) : TI := fun σ H R => ta σ H fun vs H1 => ∃ i j : Int, vs = [.int i, .int j, .int (-1)] ∧ (-(2 ^ 62) ≤ i ∧ i < 2 ^ 62 ∧ -(2 ^ 62) ≤ j ∧ j < 2 ^ 62) ∧ R (Itd i (i - j).toNat) H1
theorem pi_rangeD {tg a b c : Expr} {ta : TA} {p pos : Pos} (hg : Gl X "range") (hm : X.mg "range" = none) (ha : PA X [a, b, c] ta) (hs : starEach [a, b, c] X.env = (false, eval a X.env) :: starEach [b, c] X.env := by rfl) (hs2 : (backTo pos (starEach [b, c] X.env)).any (·.1) = false := by rfl) :
    PI X tg (.Call (.Name "range" p) [a, b, c] [] pos) (iRngD ta) := by
  intro pins s σ H R I h
  refine Call_ (ld_blt I hg hm boot_range (PyProof.Rows.callWith_type1 (thn (ha pos pins s σ H _ I h) fun us s1 ⟨vs, H1, I1, r1, q1⟩ => ?_) hs hs2))
  obtain ⟨i, j, e, ⟨q1, q2, q3, q4⟩, q⟩ := q1
  subst e
  cases r1 with
  | cons r rr =>
    cases rr with
    | cons r' rr =>
      cases rr with
      | cons r'' rr =>
        cases rr
        obtain ⟨t, rfl⟩ := r
        obtain ⟨u, rfl⟩ := r'
        obtain ⟨v, rfl⟩ := r''
        refine call_range_3 (by decide) ?_ (.inl (PyProof.noPylong_small (by decide)))
        refine wpAny_pyIter_range (IsRange.new ..) (PySem.W.small_down q1 q2 q3 q4) ?_
        have I2 : Inv X pins σ H1 { s1 with heap := s1.heap.push { cls := .type "range", data := .fields #[.int i t, .int j u, .int (-1) v] }, toks := s1.toks } := I1.kept fun b o e => Heap.get?_push_of_some _ e
        refine ⟨(s1.heap.push { cls := .type "range", data := .fields #[.int i t, .int j u, .int (-1) v] }).objs.size, [(s1.heap.push { cls := .type "range", data := .fields #[.int i t, .int j u, .int (-1) v] }).objs.size], _, _, H1, rfl,
          I2.kept (t' := s1.toks) fun b o e => Heap.get?_push_of_some _ e, turn_down _ i (i - j).toNat, ?_, fun b hb => ?_, q⟩
        · show IsRangeIter _ _ (i + ((0 : Nat) : Int) * (-1)) ((((i - j).toNat : Nat) : Int) - ((0 : Nat) : Int)) (-1)
          rw [show i + ((0 : Nat) : Int) * (-1) = i by omega, show (((i - j).toNat : Nat) : Int) - ((0 : Nat) : Int) = Builtin.Range.rangeSize i j (-1) by rw [PySem.W.rangeSize_downNat]; omega]
          exact Heap.get?_push_size _ rfl
        · have e : b = (s1.heap.push { cls := .type "range", data := .fields #[.int i t, .int j u, .int (-1) v] }).objs.size := by simpa using hb
          subst e
          exact I2.fpOk (Nat.le_refl _) (I2.hok.fresh (Nat.le_refl _))
/-- a loop downwards -/
theorem for_down {hi : Int} {n : Nat} {g : TG} {tb : TS} {D : Ends} {σ : St} {H : Hp} (Pv : Nat → St → Hp → Prop) (h0 : Pv 0 σ H)
    (hs : ∀ i σ H, i < n → Pv i σ H → g (.int (hi - i)) σ H fun σ2 H2 => tb { D with nx := Pv (i + 1), ct := Pv (i + 1), bk := D.nx } σ2 H2) (hd : ∀ σ H, Pv n σ H → D.nx σ H) :
    ∃ W : Nat → Nat → St → Hp → Prop, (∃ m, W 0 m σ H) ∧ ∀ i m σ H, W i m σ H →
      ((Itd hi n).stop i H ∧ D.nx σ H) ∨ ((Itd hi n).go i H ∧ ∃ N : St → Hp → Prop, (∀ σ' H', N σ' H' → ∃ m', m' < m ∧ W (i + 1) m' σ' H') ∧ ∀ x H', (Itd hi n).yld i H x H' → g x σ H' fun σ2 H2 => tb { D with nx := N, ct := N, bk := D.nx } σ2 H2) := by
  refine ⟨fun i m σ H => m = n - i ∧ i ≤ n ∧ Pv i σ H, ⟨n, by simp, Nat.zero_le _, h0⟩, ?_⟩
  rintro i m σ H ⟨rfl, hi', p⟩
  by_cases hlt : i < n
  · refine .inr ⟨hlt, Pv (i + 1), fun σ' H' p' => ⟨n - (i + 1), by omega, rfl, hlt, p'⟩, fun x H' y => ?_⟩
    obtain ⟨e, y⟩ := y
    subst e y
    exact hs i σ _ hlt p
  · have e : i = n := by omega
    subst e
    exact .inl ⟨Nat.le_refl _, hd σ H p⟩
/-- a loop over enumerate -/
theorem for_enum {K : PySem.W.Frag} {a : Addr} {xs : List V} {g : TG} {tb : TS} {D : Ends} {σ : St} {H : Hp} (Pv : Nat → St → Hp → Prop) (h0 : Pv 0 σ H) (hl : ∀ i σ H, i ≤ xs.length → Pv i σ H → SqL K H a xs)
    (hs : ∀ i x σ H T, xs[i]? = some x → Pv i σ H → H T = none → g (.ref T) σ (upd H T (.tup [.int i, x])) fun σ2 H2 => tb { D with nx := Pv (i + 1), ct := Pv (i + 1), bk := D.nx } σ2 H2) (hd : ∀ σ H, Pv xs.length σ H → D.nx σ H) :
    ∃ W : Nat → Nat → St → Hp → Prop, (∃ m, W 0 m σ H) ∧ ∀ i m σ H, W i m σ H →
      ((Ite K a).stop i H ∧ D.nx σ H) ∨ ((Ite K a).go i H ∧ ∃ N : St → Hp → Prop, (∀ σ' H', N σ' H' → ∃ m', m' < m ∧ W (i + 1) m' σ' H') ∧ ∀ x H', (Ite K a).yld i H x H' → g x σ H' fun σ2 H2 => tb { D with nx := N, ct := N, bk := D.nx } σ2 H2) := by
  refine ⟨fun i m σ H => m = xs.length - i ∧ i ≤ xs.length ∧ Pv i σ H, ⟨xs.length, by simp, Nat.zero_le _, h0⟩, ?_⟩
  rintro i m σ H ⟨rfl, hi, p⟩
  have q := hl i σ H hi p
  by_cases hlt : i < xs.length
  · refine .inr ⟨⟨xs, xs[i], q, by simp [hlt]⟩, Pv (i + 1), fun σ' H' p' => ⟨xs.length - (i + 1), by omega, rfl, hlt, p'⟩, fun v H' y => ?_⟩
    obtain ⟨T, x, rfl, hT, hx, rfl⟩ := y
    exact hs i x σ _ T (hx xs q) p hT
  · have e : i = xs.length := by omega
    subst e
    exact .inl ⟨⟨xs, q, Nat.le_refl _⟩, hd σ H p⟩
/-! ### dicts as values -/
theorem call_listD (hc : X.calm = true) : CallR X (.type "list") (fun xs H Q => ∃ a kvs, xs = [.ref a] ∧ H a = some (.dK kvs) ∧ ∀ l, H l = none → Q (.ref l) (upd H l (.lst (kvs.map fun kv => kV kv.1)))) := by
  intro pins s σ H xs us Q I r h
  obtain ⟨a, kvs, rfl, ha, q⟩ := h
  obtain ⟨u, rfl, rx⟩ := vals1 r
  cases rx
  obtain ⟨z, hd, vs, rel, dd⟩ := dk_of I.hok ha
  obtain ⟨ep, hat⟩ := dd.dictAt
  refine PySem.W.kdl_call (PySem.W.kdl_dict (knd := mixKind X.prog X.w) (kvs := vs) (ep := ep) hd) (I.ok.hd hc) hat (by rw [← rel.length]; exact z) fun h' tk acc c kp e hacc => ?_
  refine ⟨.ref s.heap.objs.size, _, I.laid (t' := tk) kp (Nat.le_refl _) (show ObjOk X.prog X.w _ h' _ (.lst (kvs.map fun kv => kV kv.1)) from ⟨by rw [List.length_map]; exact z, acc.toList, c, ?_, by rw [Array.toArray_toList]; exact e⟩), rfl, q _ (I.hok.fresh (Nat.le_refl _))⟩
  have len : acc.toList.length = kvs.length := by rw [Array.length_toList, hacc.1, rel.length]
  have all : ∀ (i : Nat) (kv : Key × V) (v : Value), kvs[i]? = some kv → acc.toList[i]? = some v → RelV (kV kv.1) v := fun i kv v h1 h2 => by
    obtain ⟨k, x, e1, e2⟩ := hacc.2 i v (by rw [← Array.getElem?_toList]; exact h2)
    have kk : kvs.map (·.1) = vs.map (·.1) := rel.keys
    have e3 : (kvs.map (·.1))[i]? = some kv.1 := by rw [List.getElem?_map, h1]; rfl
    rw [kk, List.getElem?_map, e1] at e3
    have e4 : k = kv.1 := Option.some.inj e3
    rw [← e4]
    have e5 : keyIs k v = true := e2
    rcases keyIs_shape e5 with ⟨i, t, rfl, rfl⟩ | ⟨i, t, rfl, rfl⟩
    · exact ⟨t, rfl⟩
    · exact ⟨t, rfl⟩
  exact vals_of kvs acc.toList len.symm all
where
  vals_of : ∀ (kvs : List (Key × V)) (us : List Value), kvs.length = us.length → (∀ (i : Nat) (kv : Key × V) (v : Value), kvs[i]? = some kv → us[i]? = some v → RelV (kV kv.1) v) → Vals (kvs.map fun kv => kV kv.1) us
    | [], [], _, _ => .nil
    | kv :: r, u :: us, hl, h => .cons (h 0 kv u rfl rfl) (vals_of r us (by simpa using hl) fun i kv' v h1 h2 => h (i + 1) kv' v (by rw [List.getElem?_cons_succ]; exact h1) (by rw [List.getElem?_cons_succ]; exact h2))
end
/-! ### tables by ints -/
def kI : Key → Int
  | .inl s => s
  | .inr _ => 0
def AllInt (kvs : List (Key × V)) : Prop := ∀ kv ∈ kvs, ∃ s, kv.1 = Sum.inl s
theorem AllInt.keys {kvs : List (Key × V)} (h : AllInt kvs) : (kvs.map fun kv => kV kv.1) = (kvs.map fun kv => kI kv.1).map V.int := by
  rw [List.map_map]
  apply List.map_congr_left
  intro kv hkv
  obtain ⟨s, e⟩ := h kv hkv
  show kV kv.1 = V.int (kI kv.1)
  rw [e]
  rfl
theorem AllInt.put {kvs : List (Key × V)} (h : AllInt kvs) (s : Int) (v : V) : AllInt (putK kvs (Sum.inl s) v) := by
  intro kv hkv
  unfold putK at hkv
  split at hkv
  · obtain ⟨x, hx, rfl⟩ := List.mem_map.mp hkv
    split
    · rename_i e
      exact ⟨s, e⟩
    · exact h x hx
  · rcases List.mem_append.mp hkv with q | q
    · exact h kv q
    · rw [List.mem_singleton.mp q]
      exact ⟨s, rfl⟩
theorem key_mem {kvs : List (Key × V)} (h : AllInt kvs) {s : Int} : s ∈ (kvs.map fun kv => kI kv.1) ↔ ∃ v, valV kvs (Sum.inl s) = some v := by
  constructor
  · intro hs
    obtain ⟨kv, hkv, e⟩ := List.mem_map.mp hs
    obtain ⟨s', e'⟩ := h kv hkv
    have e2 : s' = s := by rw [e'] at e; exact e
    subst e2
    cases hv : valV kvs (Sum.inl s') with
    | some v => exact ⟨v, rfl⟩
    | none => exact absurd (List.mem_map.mpr ⟨kv, hkv, e'⟩) (valV_not hv)
  · rintro ⟨v, hv⟩
    obtain ⟨kv, hkv, e⟩ := List.mem_map.mp (valV_in hv)
    exact List.mem_map.mpr ⟨kv, hkv, by rw [e]; rfl⟩
theorem nodup_ints {kvs : List (Key × V)} (h : AllInt kvs) (nd : (kvs.map (·.1)).Nodup) : (kvs.map fun kv => kI kv.1).Nodup := by
  unfold List.Nodup at nd ⊢
  rw [List.pairwise_map] at nd ⊢
  refine List.Pairwise.imp_of_mem ?_ nd
  intro a b ha hb ne e
  obtain ⟨x, ex⟩ := h a ha
  obtain ⟨y, ey⟩ := h b hb
  rw [ex, ey] at e ne
  exact ne (congrArg Sum.inl e)
theorem dict_few {kvs : List (Key × V)} {m : Int} (h : AllInt kvs) (nd : (kvs.map (·.1)).Nodup) (hm : ∀ s v, valV kvs (Sum.inl s) = some v → 0 ≤ s ∧ s ≤ m) : kvs.length ≤ (m + 1).toNat := by
  have := Us.few_between (nodup_ints h nd) (m := m) fun x hx => by
    obtain ⟨v, hv⟩ := (key_mem h).1 hx
    exact hm x v hv
  rw [List.length_map] at this
  exact this
theorem nd_put {kvs : List (Key × V)} {k : Key} (v : V) (nd : (kvs.map (·.1)).Nodup) : ((putK kvs k v).map (·.1)).Nodup := by
  cases h : valV kvs k with
  | none => exact nd_putK v nd h
  | some u =>
    have e : (putK kvs k v).map (·.1) = kvs.map (·.1) := by
      unfold putK
      rw [if_pos (by rw [valV_any, h]; rfl), List.map_map]
      apply List.map_congr_left
      intro kv _
      show (if kv.1 = k then (kv.1, v) else kv).1 = kv.1
      split <;> rfl
    rw [e]
    exact nd
end L2

namespace Us
/-- the least number that is no sum, by the reach -/
def lackW : List Int → Int → Int
  | [], reach => reach + 1
  | d :: r, reach => if d > reach + 1 then reach + 1 else lackW r (reach + d)
end Us

namespace Us
end Us

namespace L2
open PySem PySem.Spec PyProof.Rows
/-- a table of sums of the first i -/
structure Tab (ds : List Int) (most : Int) (kvs : List (Key × V)) (i : Nat) : Prop where
  keys : AllInt kvs
  nd : (kvs.map (·.1)).Nodup
  val : ∀ s v, valV kvs (Sum.inl s) = some v → Us.ss (ds.take i) s = true ∧ s ≤ most
  has : ∀ s, Us.ss (ds.take i) s = true → s ≤ most → ∃ v, valV kvs (Sum.inl s) = some v
structure Tab2 (ds : List Int) (most : Int) (kvs : List (Key × V)) (i : Nat) (ks : List Int) (j : Nat) : Prop where
  keys : AllInt kvs
  nd : (kvs.map (·.1)).Nodup
  val : ∀ s v, valV kvs (Sum.inl s) = some v → Us.ss (ds.take (i + 1)) s = true ∧ s ≤ most
  has : ∀ s, Us.ss (ds.take i) s = true → s ≤ most → ∃ v, valV kvs (Sum.inl s) = some v
  more : ∀ t ∈ ks.take j, t + ds.getD i 0 ≤ most → ∃ v, valV kvs (Sum.inl (t + ds.getD i 0)) = some v
theorem Tab2.few {ds : List Int} {most : Int} {kvs : List (Key × V)} {i : Nat} {ks : List Int} {j : Nat} (hd : ∀ d ∈ ds, 0 < d) (x : Tab2 ds most kvs i ks j) : kvs.length ≤ (most + 1).toNat :=
  dict_few x.keys x.nd fun s v h => ⟨Us.ss_nonneg (fun d q => hd d (List.mem_of_mem_take q)) (x.val s v h).1, (x.val s v h).2⟩
theorem Tab2.step {ds : List Int} {most : Int} {kvs : List (Key × V)} {i : Nat} {ks : List Int} {j : Nat} {t : Int} (x : Tab2 ds most kvs i ks j) (ht : ks[j]? = some t) (hil : i < ds.length) (st : Us.ss (ds.take i) t = true) (hm : t + ds.getD i 0 ≤ most) :
    Tab2 ds most (putK kvs (Sum.inl (t + ds.getD i 0)) (.bl true)) i ks (j + 1) := by
  have tk : ks.take (j + 1) = ks.take j ++ [t] := by rw [List.take_add_one, ht]; rfl
  refine ⟨x.keys.put _ _, nd_put _ x.nd, fun s v h => ?_, fun s h hm => ?_, fun u hu hm => ?_⟩
  · rw [valV_put] at h
    split at h
    · rename_i e
      have e' : s = t + ds.getD i 0 := Sum.inl.inj e
      subst e'
      exact ⟨by rw [Us.ss_succ hil, show t + ds.getD i 0 - ds.getD i 0 = t by omega, st, Bool.or_true], hm⟩
    · exact x.val s v h
  · obtain ⟨v, hv'⟩ := x.has s h hm
    rw [valV_put]
    split
    · exact ⟨_, rfl⟩
    · exact ⟨v, hv'⟩
  · rw [valV_put]
    split
    · exact ⟨_, rfl⟩
    · rename_i ne
      rw [tk] at hu
      rcases List.mem_append.mp hu with hu | hu
      · exact x.more u hu hm
      · rw [List.mem_singleton.mp hu] at ne
        exact absurd rfl ne
theorem Tab.start {ds : List Int} {most : Int} (m0 : 0 ≤ most) (v : V) : Tab ds most [(Sum.inl 0, v)] 0 := by
  refine ⟨fun kv h => ⟨0, by rw [List.mem_singleton.mp h]⟩, by simp, fun s v h => ?_, fun s h _ => ?_⟩
  · by_cases e : s = 0
    · subst e
      exact ⟨by simp [Us.ss_nil], m0⟩
    · rw [valV_neg (fun z => e (Sum.inl.inj z).symm), valV_nil] at h
      cases h
  · have e : s = 0 := of_decide_eq_true h
    subst e
    exact ⟨_, valV_pos rfl⟩
theorem Tab.open {ds : List Int} {most : Int} {kvs : List (Key × V)} {i : Nat} {ks : List Int} (x : Tab ds most kvs i) : Tab2 ds most kvs i ks 0 :=
  ⟨x.keys, x.nd, fun s v h => ⟨Us.ss_take_mono (Nat.le_succ _) (x.val s v h).1, (x.val s v h).2⟩, x.has, fun t h => (nomatch h)⟩
def Goes (T B m : Int) : Bool := Us.ss (divs (B * m)) (T * m)
def sharesOf (T B m : Int) : List Int := (Us.gw (divs (B * m)) (divs (B * m)).length (T * m)).1.map (B * m / ·)
def GoesQ (H : Hp) (T B most : Int) (Q : VK) : Prop := (∀ H', Same H H' → (∀ m, 1 ≤ m → m ≤ most → B * m ≤ 1000 → Goes T B m = false) → Q .non H') ∧
  ∀ (m : Int) (r l : Addr) (H' : Hp), 1 ≤ m → m ≤ most → B * m ≤ 1000 → Goes T B m = true → (∀ m', 1 ≤ m' → m' < m → Goes T B m' = false) → H r = none → H l = none → l ≠ r → Same H H' → H' l = some (.lst ((sharesOf T B m).map V.int)) → H' r = some (.tup [.int m, .ref l]) → Q (.ref r) H'
theorem gw_divs {n m : Int} : ∀ x ∈ (Us.gw (divs n) (divs n).length m).1, 0 < x ∧ n % x = 0 := fun x hx => by
  have := Us.gw_mem _ m (Nat.le_refl _) x hx
  rw [List.take_length] at this
  exact ⟨divs_pos x this, of_decide_eq_true (List.mem_filter.mp this).2⟩
end L2

namespace Us
/-- the walks with fuel, for tables -/
def grF : Nat → Int → Int → Option (List Int)
  | 0, t, _ => if 0 < t then none else some []
  | n + 1, t, b => if 0 < t then (grF n (t * cl t b - b) (b * cl t b)).map (cl t b :: ·) else some []
theorem grF_gr {L : Int} : ∀ (n : Nat) (t b : Int) (xs : List Int), grF n t b = some xs → (∀ x ∈ xs, x < L) → gr L t b = some xs
  | 0, t, b, xs, h, _ => by
    unfold grF at h
    split at h
    · cases h
    · cases h
      exact gr_zero (by assumption)
  | n + 1, t, b, xs, h, hx => by
    unfold grF at h
    split at h
    · rename_i ht
      cases e : grF n (t * cl t b - b) (b * cl t b) with
      | none => rw [e] at h; cases h
      | some ys =>
        rw [e] at h
        cases h
        have i := grF_gr n _ _ ys e fun x hx' => hx x (List.mem_cons_of_mem _ hx')
        have c := hx (cl t b) List.mem_cons_self
        rw [gr_pos ht (by omega), i]
        rfl
    · cases h
      exact gr_zero (by assumption)
def engF : Nat → Int → Int → Option (List Int)
  | 0, _, t => if 0 < t then none else some []
  | n + 1, b, t => if 0 < t then (engF n b (t * cl t b - b)).map (cl t b :: ·) else some []
def okG (o : Option (List Int)) : Bool := match o with
  | none => false
  | some xs => decide (xs.length ≤ 8) && xs.all fun x => decide (0 < x) && decide (x ≤ 4194304)
end Us

namespace Us
theorem prodL_small : ∀ (fs : List Int) (p : Int) (n : Nat), (∀ f ∈ fs, 0 < f ∧ f ≤ 1000) → 0 < p → p ≤ P2 (10 * n) → 0 < prodL p fs ∧ prodL p fs ≤ P2 (10 * (n + fs.length))
  | [], _, _, _, hp, hl => ⟨hp, hl⟩
  | f :: r, p, n, hf, hp, hl => by
    obtain ⟨f0, f1⟩ := hf f List.mem_cons_self
    have pf : 0 < p * f := Int.mul_pos hp f0
    have m := P2_mul (m := 10 * n) (n := 10) (Int.le_of_lt hp) hl (Int.le_of_lt f0) (Int.le_trans f1 (by decide))
    have e : 10 * n + 10 = 10 * (n + 1) := by omega
    rw [e] at m
    have q := prodL_small r (p * f) (n + 1) (fun y hy => hf y (List.mem_cons_of_mem _ hy)) pf m
    rw [show n + 1 + r.length = n + (f :: r).length by simp; omega] at q
    exact q
end Us
namespace L2
open PySem PySem.Spec PyProof.Rows
section
variable {X : Cx}
end
end L2

namespace L2
open PySem PySem.Spec PyProof.Rows
section
variable {X : Cx} {pins : List (Addr × Obj)} {σ : St} {H1 H : Hp} {s1 s : Shared} {x C : Addr}
def tTryE (K : PySem.W.Frag) (Y : Addr) (sp : Sp) (m : Nat) (t : TA) (ts : TS) : TS := fun D σ H => ∃ Eb : XK, (t σ H fun vs H2 => sp (vs ++ []) H2 (fun _ H3 => D.nx σ H3) Eb) ∧
  ∀ (C : Value) (H2 : Hp), Eb C none H2 → ∃ Ca, C = .ref Ca ∧ PySem.W.exmOne K (.ref Ca) (.ref Y) = some true ∧ ∀ x, H2 x = none →
    ts { D with nx := fun σ' H' => D.nx (σ'.set m none) H', bk := fun σ' H' => D.bk (σ'.set m none) H', ct := fun σ' H' => D.ct (σ'.set m none) H' } (σ.set m (some (.ref x))) (upd H2 x (ExcO x Ca))
theorem ps_tryE {fname yc n : Str} {ps : List Str} {j k m : Nat} {sp : Sp} {e : Expr} {es : List Expr} {t : TA} {ts : TS} {Y : Addr} {b0 : Stmt} {suite : List Stmt} {p np cpos apos hpos pos : Pos} (Cc : Cal X.prog X.w X.K X.mg X.base (CXE X.prog X.w) fname ps j sp) (hr : Room k X.A) (hN : X.N.Nodup)
    (hn : X.N[m]? = some n) (hnl : X.env.scope.names.lookup n = some .local) (ha : PA X.nox (e :: es) t) (hmc : X.mg yc = some (.ref Y)) (hts : ∀ x E', PSs (X.markd x E') (b0 :: suite) ts) (hst : X.stack = X.env :: X.outer := by rfl) (hfr : X.env.frame = some X.env.locals := by rfl)
    (hex : X.ex = [] := by rfl) (hj : j ≤ k := by decide) (hg : Gl X fname := by rfl) (hgc : Gl X yc := by rfl) (hdb : (fname == ("__debug__" : Str)) = false := by decide) (hdc : (yc == ("__debug__" : Str)) = false := by decide) (he : starEach (e :: es) X.env = (false, eval e X.env) :: starEach es X.env := by rfl)
    (hpl : (backTo cpos (starEach es X.env)).any (·.1) = false := by rfl) (hs : swapsWith (.Call (.Name fname p) (e :: es) [] cpos) none apos.line X.env = pure false := by rfl)
    (hp : (X.env.scope.kind == .class || (X.env.scope.kind == .module && X.env.locals != X.env.globals)) = false := by rfl) :
    PS X (.Try [.Expr (.Call (.Name fname p) (e :: es) [] cpos) apos] [.ExceptHandler (some (.Name yc np)) (some n) (b0 :: suite) hpos] [] [] pos) (tTryE X.K Y sp m t ts) := by
  intro pins s σ H D I h
  obtain ⟨Eb, h1, h2⟩ := h
  refine wpAny_Try_except (wpAny_execs_cons (wpAny_Expr_any (wpAny_mono (run_try (Q := fun v H3 => D.nx σ H3) (E' := fun e s₁ => wpAny (model X.prog X.w) X.A (noteFrame e X.env) (fun _ s₂ => wpAny (model X.prog X.w) X.A (setFlight e none) (fun _ s₃ => wpAny (model X.prog X.w) X.A (handleBy e X.env [.ExceptHandler (some (.Name yc np)) (some n) (b0 :: suite) hpos]) (SP X pins D) X.xe s₃) X.xe s₂) X.xe s₁) Cc hr hj hg ha I h1 (fun H2 s2 e' s' I1 hx => ?_) hdb he hpl) (fun v s1 q => ?_) fun _ _ z => z) I.quiet hs))
  · obtain ⟨x, C, H', rfl, F, hE⟩ := hx
    obtain ⟨Ca, eC, hexm, hsuite⟩ := h2 _ _ hE
    cases eC
    obtain ⟨B, a0, fl, t1, t2⟩ := F.fl
    have fl0 := fl
    rw [hst] at fl0
    refine wpAny_looks_onW (by rw [I1.ok.frames, hst]) hfr fl0 fun h4 held4 up4 => ?_
    refine wpAny_landsW held4 fun h5 fl5 up5 => ?_
    have I5 : Inv X pins σ H' { s' with heap := h5 } := F.land I1 t1 t2 fl5.1 (up4.trans up5)
    obtain ⟨ob, hob, hobc⟩ := fl5.there
    refine wpAny_handleBy_cons (codeAny_handlers_test ?_) (by intro q; cases q)
    refine ld_glob (X := X.markd x fun _ _ => False) (I5.markd x _) hgc hmc ?_ hdc
    refine (PySem.W.exm_one I5.kIn (ExcAt.type ⟨ob, hob, hobc⟩) hexm).at ?_
    refine codeAny_handlers_suite_as ?_
    refine lands_againW fl5 fun h6 fl6 up6 => ?_
    have I6 : Inv X pins σ H' { s' with heap := h6 } := F.land I1 t1 t2 fl6.1 ((up4.trans up5).trans up6)
    obtain ⟨ob6, hob6, hobc6⟩ := fl6.there
    have out : ∀ a o, s2.heap.get? a = some o → a ≠ x := fun a o ea z => by rw [z, F.fresh] at ea; cases ea
    have n0 : X.s₀.heap.get? x = none := by
      cases z : X.s₀.heap.get? x with
      | none => rfl
      | some o =>
        obtain ⟨o1, e1⟩ := I1.base.there x o z (by rw [hex]; simp)
        exact absurd rfl (out x o1 e1)
    have I7 : Inv X pins σ (upd H' x (ExcO x C)) { s' with heap := h6 } := I6.track F.new n0 (fun z => by
        obtain ⟨mm, ⟨oL, _, _, eL, _⟩, _⟩ := I1.loc
        exact out _ _ eL z.symm) (fun yy c ec z => by
        obtain ⟨vv, oc, eo, _⟩ := I1.cell yy c ec
        exact out _ _ eo z) (fun q hq z => out _ _ (I1.pin q hq).1 z) ⟨⟨ob6, hob6, hobc6⟩, ⟨ob6, hob6⟩, fun g1 g2 p1 kk => by
        obtain ⟨o, e1, e2⟩ := p1
        exact ⟨o, kk o e1, e2⟩⟩
    refine store_ok (X := X.markd x fun _ _ => False) (I7.markd x _) hN hn (.inl hnl) (show RelV (.ref x) (.ref x) from rfl) (fun s8 I8 => ?_) (.inr hnl)
    refine wpAny_mono (hts x (fun _ _ => False) pins s8 _ _ _ I8 (hsuite x F.new)) (fun f s9 q9 => ?_) fun _ _ z => False.elim z
    have go : ∀ {σ' : St} {Hn : Hp} {G : Flow → Shared → Prop}, Inv X pins σ' Hn s9 → (∀ s10, Inv X pins (σ'.set m none) Hn s10 → G f s10) → wpAny (model X.prog X.w) X.A (do bindName X.env n .none; unbindBehindTheSuite X.env n hpos) (fun _ s₃ => G f s₃) X.xe s9 := fun {σ' Hn G} J hG => by
      obtain ⟨mm, hm, _⟩ := J.loc
      exact wpAny_nameGoes_keeps hnl hm hp fun h' v hm' sb => hG _ (J.gone hN hn hm hm' sb)
    cases f with
    | next =>
      obtain ⟨σ', Hn, J, q⟩ := q9
      exact go (J.unmark I1.ok) fun s10 J' => ⟨_, _, J', q⟩
    | brk =>
      obtain ⟨σ', Hn, J, q⟩ := q9
      exact go (G := SP X pins D) (J.unmark I1.ok) fun s10 J' => ⟨_, _, J', q⟩
    | cont =>
      obtain ⟨σ', Hn, J, q⟩ := q9
      exact go (G := SP X pins D) (J.unmark I1.ok) fun s10 J' => ⟨_, _, J', q⟩
    | ret u =>
      obtain ⟨v, σ', Hn, J, r, q⟩ := q9
      exact go (G := SP X pins D) (J.unmark I1.ok) fun s10 J' => ⟨v, _, _, J', r, q⟩
  · obtain ⟨vv, H3, I3, r3, q3⟩ := q
    exact wpAny_execs_nil (wpAny_execs_nil ⟨_, _, I3, q3⟩)
end
theorem Cal.toE {P : Program} {w : World} {K : PySem.W.Frag} {mg : Str → Option Value} {base : Heap} {x : Str} {ps : List Str} {k : Nat} {sp : Sp} (C : Cal P w K mg base CX0 x ps k sp) : Cal P w K mg base (CXE P w) x ps k sp := by
  obtain ⟨f, fd, F, b⟩ := C.ex
  refine ⟨f, fd, ⟨F.len, fun A outer s H args us vs Q E hr he hb hv hs => codeAny_mono (F.run A outer s H args us vs Q E hr he hb hv hs) fun r s' hq => ?_⟩, b⟩
  cases r with
  | error e => exact False.elim hq
  | ok fl => cases fl <;> exact hq
theorem Cal.orE {P : Program} {w : World} {K : PySem.W.Frag} {mg : Str → Option Value} {base : Heap} {CX : CXT} {x : Str} {ps : List Str} {k : Nat} {sp sp' : Sp} (C : Cal P w K mg base CX x ps k sp) (C' : Cal P w K mg base CX x ps k sp') : Cal P w K mg base CX x ps k (fun vs H Q E => sp vs H Q E ∨ sp' vs H Q E) := by
  obtain ⟨f, fd, F, b, kp, mm, oc, od, osl, l⟩ := C.ex
  have F' := C'.law mm l
  refine ⟨f, fd, ⟨fun vs H Q E h => ?_, fun A outer s H args us vs Q E hr he hb hv h => ?_⟩, b, kp, mm, oc, od, osl, l⟩
  · rcases h with h | h
    · exact F.len vs H Q E h
    · exact F'.len vs H Q E h
  · rcases h with h | h
    · exact F.run A outer s H args us vs Q E hr he hb hv h
    · exact F'.run A outer s H args us vs Q E hr he hb hv h
/-- a pair for which ways are refused -/
def badP (NF NB : Addr) (t b : Int) (H : Hp) (E : XK) : Prop := (¬ (0 ≤ t ∧ 1 ≤ b) ∧ E (.ref NF) none H) ∨ ((0 ≤ t ∧ 1 ≤ b) ∧ (t = 0 ∨ b ≤ t) ∧ E (.ref NB) none H)
end L2
namespace Us
def okB (o : Option (List Int)) : Bool := match o with
  | none => false
  | some xs => xs.all fun x => decide (x < 10 ^ 400)
theorem tab_grB : ∀ b : Fin 41, ∀ t : Fin 6, okB (grF 6 ((t.1 : Nat) : Int) ((b.1 : Nat) : Int)) = true ∨ b.1 ≤ t.1 := by decide +kernel
theorem gr_five {t b : Int} (h0 : 0 < t) (h1 : t < b) (h2 : b ≤ 40) (h5 : t ≤ 5) : ∃ xs, gr LL t b = some xs := by
  have := tab_grB ⟨b.toNat, by omega⟩ ⟨t.toNat, by omega⟩
  rcases this with h | h
  · have e1 : ((t.toNat : Nat) : Int) = t := by omega
    have e2 : ((b.toNat : Nat) : Int) = b := by omega
    dsimp only at h
    rw [e1, e2] at h
    cases e : grF 6 t b with
    | none => rw [e] at h; cases h
    | some xs =>
      rw [e] at h
      have h' : (xs.all fun x => decide (x < 10 ^ 400)) = true := h
      rw [List.all_eq_true] at h'
      exact ⟨xs, grF_gr 6 t b xs e fun x hx => of_decide_eq_true (h' x hx)⟩
  · dsimp only at h
    omega
end Us

namespace Law
open PySem PySem.Spec PyProof.Rows L2
def top (i : Nat) : Stmt := PySem.Challenge.pw_unitshares_k03_no_ways.main.body.getD i (.Pass ⟨0, 0, 0, 0⟩)
abbrev s_law_cell_at : Stmt := top 33
abbrev s_check_fraction : Stmt := top 12
abbrev s_check_has_ways : Stmt := top 13
abbrev s_only_share : Stmt := top 26
abbrev s_ways_above : Stmt := top 25
abbrev s_all_ways : Stmt := top 23
abbrev s_fewest : Stmt := top 24
abbrev s_common_divisor : Stmt := top 15
abbrev s_lowest : Stmt := top 8
abbrev s_divisors : Stmt := top 28
abbrev s_least_counts : Stmt := top 31
abbrev s_parts : Stmt := top 29
abbrev s_goes_by : Stmt := top 30
abbrev s_least_reaching_one : Stmt := top 20
abbrev s_rising_factors : Stmt := top 18
abbrev s_rising : Stmt := top 19
abbrev s_check_figures : Stmt := top 21
abbrev s_greatest_first : Stmt := top 17
abbrev s_rises : Stmt := top 11
abbrev s_joined : Stmt := top 14
abbrev s_sum_of : Stmt := top 9
abbrev s_is_way : Stmt := top 10
abbrev s_law_call : Stmt := top 36
abbrev s_law_kind : Stmt := top 35
abbrev s_law_kinds : Stmt := top 37
abbrev s_law : Stmt := top 38
section
variable {P : Program} {w : World} {K : PySem.W.Frag} {mg : Str → Option Value} {base : Heap}
def sp_cell (K : PySem.W.Frag) : Sp := fun vs H Q _ => ∃ (p : Addr) (ns : List Int) (k : Int), vs = [.ref p, .int k] ∧ SqL K H p (ns.map V.int) ∧ 0 ≤ k ∧ Q (.int (ns.getD k.toNat 0)) H
theorem sc_law_cell_at : FnScope ["script", "k"] ["script", "k"] (defScope s_law_cell_at) := ⟨rfl, rfl, rfl, by decide +kernel, rfl, by decide +kernel, by decide +kernel⟩
theorem cal_law_cell_at (D : Def K mg "_law_cell_at" s_law_cell_at) (z_len : mg "len" = none) : Cal P w K mg base CX0 "_law_cell_at" ["script", "k"] 1 (sp_cell K) := by
  refine D.cal sc_law_cell_at (fun _ _ _ _ _ _ us hl => match us, hl with | [_, _], _ => rfl) (fun vs H Q E h => ?_) (fun f cdv A outer s H vs Q E hr h => ?_)
  · obtain ⟨p, ns, k, rfl, _⟩ := h
    rfl
  obtain ⟨p, ns, k, rfl, hS, h0, q⟩ := h
  refine ⟨_, (pss_cons (ps_if (pt_cmpR op_lt (pv 1) (pe_callB call_len_seq (by rfl) z_len PySem.boot_len (pa_cons (pv 0) pa_nil)) (nomark _))
      (pss_one (ps_ret (pe_ix ix_list (pv 0) (pv 1) (fun _ _ => rfl))))
      pss_nil)
    (pss_one (ps_ret pe_int))), ?_⟩
  refine ⟨_, rfl, _, rfl, p, _, rfl, .inl hS, _, _, rfl, rfl, _, rfl, ?_⟩
  rw [List.length_map]
  refine ite2 (fun c => ?_) (fun c => ?_)
  · have c' : k < (ns.length : Int) := of_decide_eq_true c
    have hk : k.toNat < ns.length := by omega
    have e := at_int (ns := ns) (i := k) h0 c'
    refine ⟨_, rfl, _, rfl, p, _, _, _, rfl, rfl, hS, e, ?_⟩
    exact q
  · have c' : ¬ k < (ns.length : Int) := of_decide_eq_false (Bool.eq_false_iff.mpr c)
    have e : ns.getD k.toNat 0 = 0 := by rw [List.getD_eq_getElem?_getD, List.getElem?_eq_none (by omega)]; rfl
    rw [e] at q
    exact q
def sp_check_fraction (K : PySem.W.Frag) : Sp := fun vs H Q _ => ∃ (p : Addr) (t b : Int), vs = [.ref p] ∧ SqT K H p [.int t, .int b] ∧ 0 ≤ t ∧ 1 ≤ b ∧ Q .non H
theorem sc_check_fraction : FnScope ["fraction"] ["fraction"] (defScope s_check_fraction) := ⟨rfl, rfl, rfl, by decide +kernel, rfl, by decide +kernel, by decide +kernel⟩
theorem cal_check_fraction (D : Def K mg "check_fraction" s_check_fraction) : Cal P w K mg base CX0 "check_fraction" ["fraction"] 1 (sp_check_fraction K) := by
  refine D.cal sc_check_fraction (fun _ _ _ _ _ _ us hl => match us, hl with | [_], _ => rfl) (fun vs H Q E h => ?_) (fun f cdv A outer s H vs Q E hr h => ?_)
  · obtain ⟨p, t, b, rfl, _⟩ := h
    rfl
  obtain ⟨p, t, b, rfl, hp, h0, h1, q⟩ := h
  refine ⟨_, (pss_one (ps_if (pw_or (pt_cmpR op_lt (pe_ix ix_tup (pv 0) pe_int (fun _ _ => rfl)) pe_int (nomark _)) (pw_or1 (pt_cmpR op_lt (pe_ix ix_tup (pv 0) pe_int (fun _ _ => rfl)) pe_int (nomark _)))).pt
      (pss_one ps_never)
      pss_nil)), ?_⟩
  refine ⟨_, rfl, p, _, _, _, rfl, rfl, hp, at0, _, _, rfl, rfl, _, rfl, ?_⟩
  refine iteDF (by omega) ?_
  refine ⟨_, rfl, p, _, _, _, rfl, rfl, hp, at1, _, _, rfl, rfl, _, rfl, ?_⟩
  refine iteDF (by omega) ?_
  exact q
def spE_check (K : PySem.W.Frag) (NF : Addr) : Sp := fun vs H Q E => ∃ (p : Addr) (t b : Int), vs = [.ref p] ∧ SqT K H p [.int t, .int b] ∧ (¬ (0 ≤ t ∧ 1 ≤ b) → E (.ref NF) none H) ∧ (0 ≤ t → 1 ≤ b → Q .non H)
theorem calE_check_fraction {NF : Addr} (D : Def K mg "check_fraction" s_check_fraction) (m_NoFraction : mg "NoFraction" = some (.ref NF)) (x_NoFraction : PySem.W.excIn K NF mroVE "ValueError.__new__" = true) : Cal P w K mg base (CXE P w) "check_fraction" ["fraction"] 1 (spE_check K NF) := by
  refine D.calE sc_check_fraction (fun _ _ _ _ _ _ us hl => match us, hl with | [_], _ => rfl) (fun vs H Q E h => ?_) (fun f cdv A outer s H vs Q E hr h => ?_)
  · obtain ⟨p, t, b, rfl, _⟩ := h
    rfl
  obtain ⟨p, t, b, rfl, hp, hb, hq⟩ := h
  refine ⟨_, (pss_one (ps_if (pw_or (pt_cmpR op_lt (pe_ix ix_tup (pv 0) pe_int (fun _ _ => rfl)) pe_int (nomark _)) (pw_or1 (pt_cmpR op_lt (pe_ix ix_tup (pv 0) pe_int (fun _ _ => rfl)) pe_int (nomark _)))).pt
      (pss_one (ps_raise own_cx rfl m_NoFraction x_NoFraction (pa_cons pe_str pa_nil)))
      pss_nil)), ?_⟩
  refine ⟨_, rfl, p, _, _, _, rfl, rfl, hp, at0, _, _, rfl, rfl, _, rfl, ?_⟩
  refine ite2 (fun c => ?_) (fun c => ?_)
  · have c' : t < 0 := of_decide_eq_true c
    exact ⟨(by decide : 1 ≤ sizeLine), hb (by omega)⟩
  · have c' : ¬ t < 0 := of_decide_eq_false (Bool.eq_false_iff.mpr c)
    refine ⟨_, rfl, p, _, _, _, rfl, rfl, hp, at1, _, _, rfl, rfl, _, rfl, ?_⟩
    refine ite2 (fun c2 => ?_) (fun c2 => ?_)
    · have c3 : b < 1 := of_decide_eq_true c2
      exact ⟨(by decide : 1 ≤ sizeLine), hb (by omega)⟩
    · have c3 : ¬ b < 1 := of_decide_eq_false (Bool.eq_false_iff.mpr c2)
      exact hq (by omega) (by omega)
def sp_check_has_ways (K : PySem.W.Frag) : Sp := fun vs H Q _ => ∃ (p : Addr) (t b : Int), vs = [.ref p] ∧ SqT K H p [.int t, .int b] ∧ 0 < t ∧ t < b ∧ Q .non H
theorem sc_check_has_ways : FnScope ["fraction"] ["fraction"] (defScope s_check_has_ways) := ⟨rfl, rfl, rfl, by decide +kernel, rfl, by decide +kernel, by decide +kernel⟩
theorem cal_check_has_ways (D : Def K mg "check_has_ways" s_check_has_ways) (c_check_fraction : Cal P w K mg base CX0 "check_fraction" ["fraction"] 1 (sp_check_fraction K)) : Cal P w K mg base CX0 "check_has_ways" ["fraction"] 2 (sp_check_has_ways K) := by
  refine D.cal sc_check_has_ways (fun _ _ _ _ _ _ us hl => match us, hl with | [_], _ => rfl) (fun vs H Q E h => ?_) (fun f cdv A outer s H vs Q E hr h => ?_)
  · obtain ⟨p, t, b, rfl, _⟩ := h
    rfl
  obtain ⟨p, t, b, rfl, hp, h0, h1, q⟩ := h
  refine ⟨_, (pss_cons (ps_expr (pe_cal c_check_fraction hr pass0 (pa_cons (pv 0) pa_nil)))
    (pss_one (ps_if (pw_or (pt_cmpR op_eq (pe_ix ix_tup (pv 0) pe_int (fun _ _ => rfl)) pe_int (nomark _)) (pw_or1 (pt_cmpR op_ge (pe_ix ix_tup (pv 0) pe_int (fun _ _ => rfl)) (pe_ix ix_tup (pv 0) pe_int (fun _ _ => rfl)) (nomark _)))).pt
      (pss_one ps_never)
      pss_nil))), ?_⟩
  refine ⟨_, rfl, p, t, b, rfl, hp, by omega, by omega, ?_⟩
  refine ⟨_, rfl, p, _, _, _, rfl, rfl, hp, at0, rfl, _, rfl, ?_⟩
  refine iteDF (fun e => by have := V.int.inj e; omega) ?_
  refine ⟨_, rfl, p, _, _, _, rfl, rfl, hp, at0, _, rfl, p, _, _, _, rfl, rfl, hp, at1, _, _, rfl, rfl, _, rfl, ?_⟩
  refine iteDF (by omega) ?_
  exact q
def spE_has (K : PySem.W.Frag) (NF NB : Addr) : Sp := fun vs H Q E => ∃ (p : Addr) (t b : Int), vs = [.ref p] ∧ SqT K H p [.int t, .int b] ∧ badP NF NB t b H E
theorem calE_check_has_ways {NF NB : Addr} (D : Def K mg "check_has_ways" s_check_has_ways) (m_NotBelow : mg "NotBelow" = some (.ref NB)) (x_NotBelow : PySem.W.excIn K NB mroVE "ValueError.__new__" = true) (e_check_fraction : Cal P w K mg base (CXE P w) "check_fraction" ["fraction"] 1 (spE_check K NF)) : Cal P w K mg base (CXE P w) "check_has_ways" ["fraction"] 2 (spE_has K NF NB) := by
  refine D.calE sc_check_has_ways (fun _ _ _ _ _ _ us hl => match us, hl with | [_], _ => rfl) (fun vs H Q E h => ?_) (fun f cdv A outer s H vs Q E hr h => ?_)
  · obtain ⟨p, t, b, rfl, _⟩ := h
    rfl
  obtain ⟨p, t, b, rfl, hp, hb⟩ := h
  refine ⟨_, (pss_cons (ps_expr (pe_cal e_check_fraction hr (passE own_cx) (pa_cons (pv 0) pa_nil)))
    (pss_one (ps_if (pw_or (pt_cmpR op_eq (pe_ix ix_tup (pv 0) pe_int (fun _ _ => rfl)) pe_int (nomark _)) (pw_or1 (pt_cmpR op_ge (pe_ix ix_tup (pv 0) pe_int (fun _ _ => rfl)) (pe_ix ix_tup (pv 0) pe_int (fun _ _ => rfl)) (nomark _)))).pt
      (pss_one (ps_raise own_cx rfl m_NotBelow x_NotBelow (pa_cons pe_str pa_nil)))
      pss_nil))), ?_⟩
  rcases hb with ⟨h1, h2⟩ | ⟨h1, h2, h3⟩
  · exact ⟨_, rfl, p, t, b, rfl, hp, fun _ => h2, fun a c => absurd ⟨a, c⟩ h1⟩
  · refine ⟨_, rfl, p, t, b, rfl, hp, fun h => absurd h1 h, fun _ _ => ?_⟩
    refine ⟨_, rfl, p, _, _, _, rfl, rfl, hp, at0, rfl, _, rfl, ?_⟩
    refine ite2 (fun c => ?_) (fun c => ?_)
    · exact ⟨(by decide : 1 ≤ sizeLine), h3⟩
    · have c' : ¬ t = 0 := fun e => c (decide_eq_true (congrArg V.int e))
      refine ⟨_, rfl, p, _, _, _, rfl, rfl, hp, at0, _, rfl, p, _, _, _, rfl, rfl, hp, at1, _, _, rfl, rfl, _, rfl, ?_⟩
      refine iteDT (by omega) ?_
      exact ⟨(by decide : 1 ≤ sizeLine), h3⟩
def sp_only : Sp := fun vs H Q _ => ∃ t b a g : Int, vs = [.int t, .int b, .int a, .int g] ∧ 0 < t ∧ t < b ∧ b ≤ Us.P2 60 ∧ ∀ (r : Addr) (as : List Addr) (H' : Hp), Same H H' → as.Nodup → RowsAt H H' r as (Us.W 0 t b a g) → Q (.ref r) H'
theorem sc_only_share : FnScope ["top", "bottom", "ahead", "greatest", "share"] ["top", "bottom", "ahead", "greatest"] (defScope s_only_share) := ⟨rfl, rfl, rfl, by decide +kernel, rfl, by decide +kernel, by decide +kernel⟩
theorem cal_only_share (D : Def K mg "only_share" s_only_share) : Cal P w K mg base CX0 "only_share" ["top", "bottom", "ahead", "greatest"] 1 sp_only := by
  refine D.cal sc_only_share (fun _ _ _ _ _ _ us hl => match us, hl with | [_, _, _, _], _ => rfl) (fun vs H Q E h => ?_) (fun f cdv A outer s H vs Q E hr h => ?_)
  · obtain ⟨t, b, a, g, rfl, _⟩ := h
    rfl
  obtain ⟨t, b, a, g, rfl, t0, t1, b1, q⟩ := h
  refine ⟨_, (pss_cons (ps_set (i := 4) sc_only_share.nd rfl (Or.inl rfl) (pe_op op_fdivB (pv 1) (pv 0)))
    (pss_cons (ps_if (pw_and (pt_cmpR op_eq (pe_op op_mulB (pv 4) (pv 0)) (pv 1) (nomark _)) (pw_and (pt_cmpR op_lt (pv 2) (pv 4) (nomark _)) (pw_and1 (pt_cmpR op_le (pv 4) (pv 3) (nomark _))))).pt
      (pss_one (ps_ret (pe_lst (pa_cons (pe_lst (pa_cons (pv 4) pa_nil)) pa_nil))))
      pss_nil)
    (pss_one (ps_ret (pe_lst pa_nil))))), ?_⟩
  have m1 : Us.P2 60 ≤ Us.P2 8999 := Us.P2_mono (by decide)
  have m2 : Us.P2 60 ≤ Us.P2 9000 := Us.P2_mono (by decide)
  have d0 : 0 ≤ b / t := Int.ediv_nonneg (by omega) (by omega)
  have d1 : b / t ≤ b := Int.ediv_le_self _ (by omega)
  refine ⟨_, rfl, _, rfl, _, _, rfl, rfl, ⟨by omega, by omega⟩, ?_⟩
  have no : ¬ (b / t * t = b ∧ a < b / t ∧ b / t ≤ g) → ∀ r, H r = none → Q (.ref r) (upd H r (.lst [])) := fun c r hr' => by
    refine q r [] _ (Same.new hr' _) .nil ?_
    unfold Us.W
    rw [if_neg c]
    exact RowsAt.nil hr' upd_same
  refine ⟨_, rfl, _, rfl, _, _, rfl, rfl, ⟨⟨by omega, by omega⟩, ⟨by omega, by omega⟩⟩, _, rfl, rfl, _, rfl, ?_⟩
  refine ite2 (fun c1 => ?_) (fun c1 => ?_)
  · have c1' : b / t * t = b := V.int.inj (of_decide_eq_true c1)
    refine ⟨_, rfl, _, rfl, _, _, rfl, rfl, _, rfl, ?_⟩
    refine ite2 (fun c2 => ?_) (fun c2 => ?_)
    · have c2' : a < b / t := of_decide_eq_true c2
      refine ⟨_, rfl, _, rfl, _, _, rfl, rfl, _, rfl, ?_⟩
      refine ite2 (fun c3 => ?_) (fun c3 => ?_)
      · have c3' : b / t ≤ g := of_decide_eq_true c3
        refine ⟨_, rfl, (by decide : 1 ≤ sizeLine), fun l hl => ⟨(by decide : 1 ≤ sizeLine), fun r hr' => ?_⟩⟩
        have g1 := Same.new hl (.lst [.int (b / t)])
        have g2 := Same.new hr' (.lst [.ref l])
        refine q r [l] _ (g1.trans g2) (by simp) ?_
        unfold Us.W
        rw [if_pos ⟨c1', c2', c3'⟩]
        have ne : l ≠ r := fun z => by rw [← z, upd_same] at hr'; cases hr'
        refine ⟨upd_same, fun h => ne (List.mem_singleton.mp h).symm, g1.free hr', rfl, fun i a row h1 h2 => ?_⟩
        cases i with
        | zero =>
          cases h1
          cases h2
          exact ⟨hl, g2 _ _ upd_same⟩
        | succ i => cases h1
      · exact ⟨(by decide : 0 ≤ sizeLine), fun r hr' => no (fun z => c3 (decide_eq_true z.2.2)) r hr'⟩
    · exact iteF ⟨(by decide : 0 ≤ sizeLine), fun r hr' => no (fun z => c2 (decide_eq_true z.2.1)) r hr'⟩
  · exact iteF ⟨(by decide : 0 ≤ sizeLine), fun r hr' => no (fun z => c1 (decide_eq_true (congrArg V.int z.1))) r hr'⟩
def sp_ways (K : PySem.W.Frag) (n : Nat) : Sp := fun vs H Q _ => ∃ (p : Addr) (t b a g : Int) (m : Nat), vs = [.ref p, .int ((n : Int) + 1), .int a, .int g] ∧ SqT K H p [.int t, .int b] ∧ 0 < t ∧ t < b ∧ b ≤ Us.P2 m ∧ m + 6 * n ≤ 50 ∧ n ≤ 3 ∧ 0 ≤ a ∧ a ≤ 60 ∧ 0 ≤ g ∧ g ≤ 60 ∧
  ∀ (r : Addr) (as : List Addr) (H' : Hp), Same H H' → as.Nodup → RowsAt H H' r as (Us.W n t b a g) → Q (.ref r) H'
def spR (K : PySem.W.Frag) : Nat → Sp
  | 0 => fun _ _ _ _ => False
  | n + 1 => sp_ways K n
theorem pow60 {g : Int} {n : Nat} (h0 : 0 ≤ g) (h1 : g ≤ 60) (hn : n ≤ 2) : g.toNat ^ n ≤ 3600 := by
  have a : g.toNat ^ n ≤ 60 ^ n := Nat.pow_le_pow_left (by omega) n
  have b : 60 ^ n ≤ 60 ^ 2 := Nat.pow_le_pow_right (by decide) hn
  omega
theorem sc_ways_above : FnScope ["fraction", "count", "ahead", "greatest", "top", "bottom", "ways", "least", "last", "share", "left", "rest"] ["fraction", "count", "ahead", "greatest"] (defScope s_ways_above) := ⟨rfl, rfl, rfl, by decide +kernel, rfl, by decide +kernel, by decide +kernel⟩
set_option maxHeartbeats 4000000 in
theorem ways_step (n : Nat) (D : Def K mg "ways_above" s_ways_above) (z_max : mg "max" = none) (z_min : mg "min" = none) (z_range : mg "range" = none) (c_only_share : Cal P w K mg base CX0 "only_share" ["top", "bottom", "ahead", "greatest"] 1 sp_only)
    (c_ways_above : Cal P w K mg base CX0 "ways_above" ["fraction", "count", "ahead", "greatest"] (n + 1) (spR K n)) : Cal P w K mg base CX0 "ways_above" ["fraction", "count", "ahead", "greatest"] (n + 2) (spR K (n + 1)) := by
  refine D.cal sc_ways_above (fun _ _ _ _ _ _ us hl => match us, hl with | [_, _, _, _], _ => rfl) (fun vs H Q E h => ?_) (fun f cdv A outer s H vs Q E hr h => ?_)
  · obtain ⟨p, t, b, a, g, m, rfl, _⟩ := h
    rfl
  obtain ⟨p, t, b, a, g, m, rfl, hp, t0, t1, b1, hm, hn, a0, a1, g0, g1, q⟩ := h
  refine ⟨_, (pss_cons (ps_set (i := 4) sc_ways_above.nd rfl (Or.inl rfl) (pe_ix ix_tup (pv 0) pe_int (fun _ _ => rfl)))
    (pss_cons (ps_set (i := 5) sc_ways_above.nd rfl (Or.inl rfl) (pe_ix ix_tup (pv 0) pe_int (fun _ _ => rfl)))
    (pss_cons (ps_if (pt_cmpR op_eq (pv 1) pe_int (nomark _))
      (pss_one (ps_ret (pe_cal c_only_share hr pass0 (pa_cons (pv 4) (pa_cons (pv 5) (pa_cons (pv 2) (pa_cons (pv 3) pa_nil)))) (hj := (Nat.le_add_left 1 n)))))
      pss_nil)
    (pss_cons (ps_set (i := 6) sc_ways_above.nd rfl (Or.inl rfl) (pe_lst pa_nil))
    (pss_cons (ps_set (i := 7) sc_ways_above.nd rfl (Or.inl rfl) (pe_op op_add (pe_callB (call_max2 rfl) (by rfl) z_max PyProof.Rows.boot_max (pa_cons (pv 2) (pa_cons (pe_op op_fdivB (pv 5) (pv 4)) pa_nil))) pe_int))
    (pss_cons (ps_set (i := 8) sc_ways_above.nd rfl (Or.inl rfl) (pe_callB (call_min2 rfl) (by rfl) z_min PyProof.Rows.boot_min (pa_cons (pv 3) (pa_cons (pe_op op_fdivB (pe_op op_mulB (pv 1) (pv 5)) (pv 4)) pa_nil))))
    (pss_cons (ps_for PassesOwn.never rfl (pi_range2 (by rfl) z_range (pa_cons (pv 7) (pa_cons (pe_op op_add (pv 8) pe_int) pa_nil))) (pg_name (i := 9) sc_ways_above.nd rfl (Or.inl rfl))
      (pss_cons (ps_set (i := 10) sc_ways_above.nd rfl (Or.inl rfl) (pe_tup (pa_cons (pe_op op_sub (pe_op op_mulB (pv 4) (pv 9)) (pv 5)) (pa_cons (pe_op op_mulB (pv 5) (pv 9)) pa_nil))))
        (pss_one (ps_for PassesOwn.never rfl (pi_list (pe_cal c_ways_above hr pass0 (pa_cons (pv 10) (pa_cons (pe_op op_sub (pv 1) pe_int) (pa_cons (pv 9) (pa_cons (pv 3) pa_nil)))) (hj := (Nat.le_refl _)))) (pg_name (i := 11) sc_ways_above.nd rfl (Or.inl rfl))
          (pss_one (ps_expr (pe_bm PySem.F.plainAttrs_list PySem.F.slot_list_append PySem.F.type_list_append mt_append (pv 6) (pa_cons (pe_op op_cat (pe_lst (pa_cons (pv 9) pa_nil)) (pv 11)) pa_nil))))))))
    (pss_one (ps_ret (pv 6)))))))))), ?_⟩
  have m1 : Us.P2 m ≤ Us.P2 50 := Us.P2_mono (by omega)
  have m2 : 4 * Us.P2 50 ≤ Us.P2 8999 := by unfold Us.P2; decide +kernel
  have m3 : 4 * Us.P2 50 ≤ Us.P2 9000 := by unfold Us.P2; decide +kernel
  have m4 : Us.P2 50 ≤ 2 ^ 60 := by unfold Us.P2; decide +kernel
  have m5 : Us.P2 50 ≤ Us.P2 60 := Us.P2_mono (by decide)
  have m6 : (64 : Int) ≤ Us.P2 50 := by unfold Us.P2; decide +kernel
  refine ⟨_, rfl, p, _, _, _, rfl, rfl, hp, at0, ?_⟩
  refine ⟨_, rfl, p, _, _, _, rfl, rfl, hp, at1, ?_⟩
  refine ⟨_, rfl, rfl, _, rfl, ?_⟩
  cases n with
  | zero =>
    refine iteDT rfl ?_
    exact ⟨_, rfl, _, rfl, _, rfl, _, rfl, t, b, a, g, rfl, t0, t1, by omega, q⟩
  | succ n =>
    refine iteDF (fun z => by have := V.int.inj z; omega) ?_
    refine ⟨(by decide : 0 ≤ sizeLine), fun r hr0 => ?_⟩
    have d0 : 0 ≤ b / t := Int.ediv_nonneg (by omega) (by omega)
    have d1 : b / t ≤ b := Int.ediv_le_self _ (by omega)
    have ec : ((n + 1 : Nat) : Int) + 1 = (n : Int) + 2 := by omega
    rw [ec]
    have cb0 : 0 ≤ ((n : Int) + 2) * b := Int.mul_nonneg (by omega) (by omega)
    have cb1 : ((n : Int) + 2) * b ≤ 4 * b := Int.mul_le_mul_of_nonneg_right (by omega) (by omega)
    have e0 : 0 ≤ ((n : Int) + 2) * b / t := Int.ediv_nonneg cb0 (by omega)
    have gr := Same.new hr0 (.lst [])
    have er : upd H r (.lst []) r = some (.lst []) := upd_same
    generalize upd H r (.lst []) = H0 at *
    refine ⟨_, rfl, _, rfl, _, rfl, _, _, rfl, rfl, ⟨by omega, by omega⟩, _, _, rfl, _, _, rfl, rfl, ?_⟩
    refine ⟨_, rfl, _, rfl, _, rfl, _, _, rfl, rfl, ⟨⟨by omega, by omega⟩, ⟨by omega, by omega⟩⟩, _, rfl, _, _, rfl, rfl, ⟨by omega, by omega⟩, _, _, rfl, ?_⟩
    have hL : 1 ≤ (if b / t > a then b / t else a) + 1 ∧ (if b / t > a then b / t else a) + 1 ≤ b + 62 := by split <;> omega
    have hU : 0 ≤ (if ((n : Int) + 2) * b / t < g then ((n : Int) + 2) * b / t else g) ∧ (if ((n : Int) + 2) * b / t < g then ((n : Int) + 2) * b / t else g) ≤ g := by split <;> omega
    have hbt : b / t < (if b / t > a then b / t else a) + 1 := by split <;> omega
    have WE : Us.W (n + 1) t b a g = (Us.rng ((if b / t > a then b / t else a) + 1) (if ((n : Int) + 2) * b / t < g then ((n : Int) + 2) * b / t else g)).flatMap fun s => (Us.W n (t * s - b) (b * s) s g).map (s :: ·) := rfl
    dsimp only
    generalize (if b / t > a then b / t else a) + 1 = L at *
    generalize (if ((n : Int) + 2) * b / t < g then ((n : Int) + 2) * b / t else g) = U at *
    refine ⟨_, rfl, _, rfl, _, _, rfl, rfl, L, U + 1, rfl, ⟨by omega, by omega, by omega, by omega⟩, for_range (n := (U + 1 - L).toNat) (fun i σ' H' => ∃ as x9 x10 x11, Same H H' ∧ as.Nodup ∧ RowsAt H H' r as (((Us.rng L U).take i).flatMap fun s => (Us.W n (t * s - b) (b * s) s g).map (s :: ·)) ∧
      σ' = [some (.ref p), some (.int ((n : Int) + 2)), some (.int a), some (.int g), some (.int t), some (.int b), some (.ref r), some (.int L), some (.int U), x9, x10, x11]) ⟨[], _, _, _, gr, .nil, RowsAt.nil hr0 er, rfl⟩ (fun i σ' H' hi h => ?_) (fun σ' H' h => ?_)⟩
    · obtain ⟨as, x9, x10, x11, gS, nd, ra, rfl⟩ := h
      generalize hs : L + (i : Int) = s
      have s0 : 1 ≤ s := by omega
      have s1 : s ≤ 60 := by omega
      have bt : b < s * t := (Int.ediv_lt_iff_lt_mul t0).mp (by omega)
      have ts : t * s = s * t := Int.mul_comm t s
      have p6 : (64 : Int) = Us.P2 6 := by unfold Us.P2; decide
      have b6 : b * s ≤ Us.P2 (m + 6) := Us.P2_mul (by omega) b1 (by omega) (by omega)
      have tlt : s * t ≤ b * s := by rw [Int.mul_comm b s]; exact Int.mul_le_mul_of_nonneg_left (by omega) (by omega)
      have wl : (Us.W n (t * s - b) (b * s) s g).length ≤ 3600 := by
        have := Us.W_len n (t * s - b) (b * s) s g.toNat (by omega) (Int.mul_pos (by omega) (by omega)) (by omega)
        rw [show ((g.toNat : Nat) : Int) = g by omega] at this
        exact Nat.le_trans this (pow60 g0 g1 (by omega))
      have pl : (((Us.rng L U).take i).flatMap fun s => (Us.W n (t * s - b) (b * s) s g).map (s :: ·)).length ≤ 60 * 3600 := by
        refine Nat.le_trans (Us.flatMap_len (c := 3600) fun y hy => ?_) (Nat.mul_le_mul_right _ ?_)
        · have my := Us.mem_rng.mp (List.mem_of_mem_take hy)
          have bty : b < y * t := (Int.ediv_lt_iff_lt_mul t0).mp (by omega)
          have tsy : t * y = y * t := Int.mul_comm t y
          rw [List.length_map]
          have := Us.W_len n (t * y - b) (b * y) y g.toNat (by omega) (Int.mul_pos (by omega) (by omega)) (by omega)
          rw [show ((g.toNat : Nat) : Int) = g by omega] at this
          exact Nat.le_trans this (pow60 g0 g1 (by omega))
        · rw [List.length_take, Us.rng_len]
          omega
      have rowlen : ∀ row ∈ Us.W n (t * s - b) (b * s) s g, row.length = n + 1 := fun row h => by
        rw [Us.W_eq n (t * s - b) (b * s) s g (by omega) (Int.mul_pos (by omega) (by omega)) (by omega)] at h
        exact (Us.R_mem (List.mem_filter.mp h).1).1
      refine ⟨_, rfl, _, rfl, _, _, rfl, rfl, ⟨⟨by omega, by omega⟩, ⟨by omega, by omega⟩⟩, _, rfl, _, _, rfl, rfl, _, rfl, _, rfl, _, _, rfl, rfl, ⟨⟨by omega, by omega⟩, ⟨by omega, by omega⟩⟩, (by decide : 2 ≤ sizeLine), fun l hl => ?_⟩
      have g2 := Same.new hl (.tup [.int (t * s - b), .int (b * s)])
      have el : upd H' l (.tup [.int (t * s - b), .int (b * s)]) l = some (.tup [.int (t * s - b), .int (b * s)]) := upd_same
      have ra1 := ra.same g2
      have gS1 := gS.trans g2
      generalize upd H' l (.tup [.int (t * s - b), .int (b * s)]) = H1 at *
      refine ⟨_, rfl, _, rfl, _, _, rfl, rfl, _, rfl, _, rfl, l, t * s - b, b * s, s, g, m + 6, by show [V.ref l, V.int ((n : Int) + 2 - 1), V.int s, V.int g] = _; rw [show (n : Int) + 2 - 1 = (n : Int) + 1 by omega], SqT.of el, by omega, by omega, b6, by omega, by omega, by omega, by omega, g0, g1, fun r2 bs H2 g3 nb rb => ?_⟩
      generalize hW : Us.W n (t * s - b) (b * s) s g = W2 at *
      refine ⟨r2, rfl, ⟨_, SqL.of rb.hr⟩, for_list (xs := bs.map V.ref) (fun j σ' H' => ∃ cs x11, Same H H' ∧ cs.Nodup ∧ RowsAt H1 H' r2 bs W2 ∧ RowsAt H H' r cs ((((Us.rng L U).take i).flatMap fun s => (Us.W n (t * s - b) (b * s) s g).map (s :: ·)) ++ (W2.take j).map (s :: ·)) ∧
        σ' = [some (.ref p), some (.int ((n : Int) + 2)), some (.int a), some (.int g), some (.int t), some (.int b), some (.ref r), some (.int L), some (.int U), some (.int s), some (.ref l), x11]) ⟨as, _, gS1.trans g3, nd, rb, by rw [List.take_zero, List.map_nil, List.append_nil]; exact ra1.same g3, rfl⟩ (fun j σ' H' _ h => ?_) (fun j x σ' H' hj h => ?_) (fun σ' H' h => ?_)⟩
      · obtain ⟨cs, x11, _, _, rb', _⟩ := h
        exact SqL.of rb'.hr
      · obtain ⟨cs, x11', gS', nc, rb', rc, rfl⟩ := h
        obtain ⟨c, row, rfl, hc, hrow, _, ec⟩ := rb'.get hj
        have rl := rowlen row (List.mem_of_getElem? hrow)
        have hr1 : ∃ o, H1 r = some o := ⟨_, ra1.hr⟩
        refine ⟨_, rfl, .inl ⟨rfl, _, SqL.of rc.hr⟩, _, rfl, (by decide : 1 ≤ sizeLine), fun l1 hl1 => ?_⟩
        have g4 := Same.new hl1 (.lst [.int s])
        refine ⟨_, rfl, l1, c, _, _, rfl, rfl, upd_same, g4 _ _ ec, by rw [List.length_map, rl]; exact Nat.le_trans (show [V.int s].length + (n + 1) ≤ 5 by simp; omega) (by decide), fun p1 hp1 => ?_⟩
        have g5 := Same.new hp1 (.lst ([.int s] ++ row.map V.int))
        have ep : upd (upd H' l1 (.lst [.int s])) p1 (.lst ([.int s] ++ row.map V.int)) p1 = some (.lst ((s :: row).map V.int)) := upd_same
        have rc5 := (rc.same g4).same g5
        have rb5 := (rb'.same g4).same g5
        have gS5 := (gS'.trans g4).trans g5
        have fp : H p1 = none := (gS'.trans g4).free hp1
        have np : ∀ x, (∃ o, upd H' l1 (.lst [.int s]) x = some o) → p1 ≠ x := fun x ⟨o, ho⟩ z => by rw [← z, hp1] at ho; cases ho
        have n1 : p1 ≠ r := np r ⟨_, (rc.same g4).hr⟩
        have n2 : p1 ∉ cs := fun h => by
          obtain ⟨_, _, _, e⟩ := (rc.same g4).mem h
          exact np p1 ⟨_, e⟩ rfl
        generalize upd (upd H' l1 (.lst [.int s])) p1 (.lst ([.int s] ++ row.map V.int)) = H5 at *
        have ln : cs.length ≤ 60 * 3600 + 3600 := by
          rw [rc.len, List.length_append, List.length_map, List.length_take]
          omega
        refine ⟨r, _, _, rfl, rfl, rc5.hr, by rw [List.length_map, sizeLine_eq]; omega, ?_⟩
        obtain ⟨o, ho⟩ := hr1
        refine ⟨cs ++ [p1], _, gS5.put hr0, nodup_snoc nc n2, rb5.put ho, ?_, rfl⟩
        rw [List.take_add_one, hrow, List.map_append, ← List.append_assoc]
        exact rc5.add fp ep n1
      · obtain ⟨cs, x11, gS', nc, rb', rc, rfl⟩ := h
        refine ⟨cs, _, _, _, gS', nc, ?_, rfl⟩
        rw [List.length_map, rb'.len, List.take_length] at rc
        rw [Us.rng_take hi, List.flatMap_append, hs, List.flatMap_singleton, hW]
        exact rc
    · obtain ⟨as, x9, x10, x11, gS, nd, ra, rfl⟩ := h
      refine ⟨_, rfl, q r as H' gS nd ?_⟩
      rw [WE]
      rw [← Us.rng_len, List.take_length] at ra
      exact ra
theorem ways_zero (D : Def K mg "ways_above" s_ways_above) : Cal P w K mg base CX0 "ways_above" ["fraction", "count", "ahead", "greatest"] 1 (spR K 0) :=
  D.cal sc_ways_above (fun _ _ _ _ _ _ us hl => match us, hl with | [_, _, _, _], _ => rfl) (fun vs H Q E h => h.elim) (fun f cdv A outer s H vs Q E hr h => h.elim)
theorem ways_all (D : Def K mg "ways_above" s_ways_above) (z_max : mg "max" = none) (z_min : mg "min" = none) (z_range : mg "range" = none) (c_only_share : Cal P w K mg base CX0 "only_share" ["top", "bottom", "ahead", "greatest"] 1 sp_only) :
    ∀ n, Cal P w K mg base CX0 "ways_above" ["fraction", "count", "ahead", "greatest"] (n + 1) (spR K n)
  | 0 => ways_zero D
  | n + 1 => ways_step n D z_max z_min z_range c_only_share (ways_all D z_max z_min z_range c_only_share n)
def sp_waysA (K : PySem.W.Frag) : Sp := fun vs H Q E => ∃ n, n ≤ 3 ∧ sp_ways K n vs H Q E
theorem cal_ways_above (D : Def K mg "ways_above" s_ways_above) (z_max : mg "max" = none) (z_min : mg "min" = none) (z_range : mg "range" = none) (c_only_share : Cal P w K mg base CX0 "only_share" ["top", "bottom", "ahead", "greatest"] 1 sp_only) :
    Cal P w K mg base CX0 "ways_above" ["fraction", "count", "ahead", "greatest"] 5 (sp_waysA K) :=
  Cal.any fun n hn => (ways_all D z_max z_min z_range c_only_share (n + 1)).mono (by omega)
def sp_all_ways (K : PySem.W.Frag) : Sp := fun vs H Q _ => ∃ (p : Addr) (t b n g : Int) , vs = [.ref p, .int n, .int g] ∧ SqT K H p [.int t, .int b] ∧ 0 < t ∧ t < b ∧ b ≤ Us.P2 20 ∧ 0 ≤ n ∧ n ≤ 4 ∧ 0 ≤ g ∧ g ≤ 60 ∧
  ∀ (r : Addr) (as : List Addr) (H' : Hp), Same H H' → as.Nodup → RowsAt H H' r as (Us.allW t b g n.toNat) → Q (.ref r) H'
theorem allW_len {t b g : Int} (h0 : 0 < t) (h1 : 0 < b) (g0 : 0 ≤ g) (g1 : g ≤ 60) : ∀ n : Nat, n ≤ 4 → (Us.allW t b g n).length ≤ n * 216000
  | 0, _ => by simp [Us.allW]
  | n + 1, hn => by
    have i := allW_len h0 h1 g0 g1 n (by omega)
    have j := Us.W_len n t b 0 g.toNat h0 h1 (by omega)
    rw [show ((g.toNat : Nat) : Int) = g by omega] at j
    have a : g.toNat ^ n ≤ 60 ^ n := Nat.pow_le_pow_left (by omega) n
    have c : 60 ^ n ≤ 60 ^ 3 := Nat.pow_le_pow_right (by decide) (by omega)
    show (Us.allW t b g n ++ Us.W n t b 0 g).length ≤ _
    rw [List.length_append, Nat.succ_mul]
    omega
theorem sc_all_ways : FnScope ["fraction", "most", "greatest", "ways", "count"] ["fraction", "most", "greatest"] (defScope s_all_ways) := ⟨rfl, rfl, rfl, by decide +kernel, rfl, by decide +kernel, by decide +kernel⟩
set_option maxHeartbeats 4000000 in
theorem cal_all_ways (D : Def K mg "all_ways" s_all_ways) (z_range : mg "range" = none) (c_check_has_ways : Cal P w K mg base CX0 "check_has_ways" ["fraction"] 2 (sp_check_has_ways K)) (c_ways_above : Cal P w K mg base CX0 "ways_above" ["fraction", "count", "ahead", "greatest"] 5 (sp_waysA K)) :
    Cal P w K mg base CX0 "all_ways" ["fraction", "most", "greatest"] 6 (sp_all_ways K) := by
  refine D.cal sc_all_ways (fun _ _ _ _ _ _ us hl => match us, hl with | [_, _, _], _ => rfl) (fun vs H Q E h => ?_) (fun f cdv A outer s H vs Q E hr h => ?_)
  · obtain ⟨p, t, b, n, g, rfl, _⟩ := h
    rfl
  obtain ⟨p, t, b, n, g, rfl, hp, t0, t1, b1, n0, n1, g0, g1, q⟩ := h
  refine ⟨_, (pss_cons (ps_expr (pe_cal c_check_has_ways hr pass0 (pa_cons (pv 0) pa_nil)))
    (pss_cons (ps_set (i := 3) sc_all_ways.nd rfl (Or.inl rfl) (pe_lst pa_nil))
    (pss_cons (ps_for PassesOwn.never rfl (pi_range2 (by rfl) z_range (pa_cons pe_int (pa_cons (pe_op op_add (pv 1) pe_int) pa_nil))) (pg_name (i := 4) sc_all_ways.nd rfl (Or.inl rfl))
      (pss_one (ps_expr (pe_bm PySem.F.plainAttrs_list PySem.F.slot_list_extend PySem.F.type_list_extend mt_extend (pv 3) (pa_cons (pe_cal c_ways_above hr pass0 (pa_cons (pv 0) (pa_cons (pv 4) (pa_cons pe_int (pa_cons (pv 2) pa_nil))))) pa_nil)))))
    (pss_one (ps_ret (pv 3)))))), ?_⟩
  refine ⟨_, rfl, p, t, b, rfl, hp, t0, t1, ?_⟩
  refine ⟨(by decide : 0 ≤ sizeLine), fun r hr0 => ?_⟩
  have gr := Same.new hr0 (.lst [])
  have er : upd H r (.lst []) r = some (.lst []) := upd_same
  generalize upd H r (.lst []) = H0 at *
  refine ⟨_, rfl, _, _, rfl, rfl, 1, n + 1, rfl, ⟨by decide, by decide, by omega, by omega⟩, for_range (n := (n + 1 - 1).toNat) (fun i σ' H' => ∃ as x, Same H H' ∧ as.Nodup ∧ RowsAt H H' r as (Us.allW t b g i) ∧ σ' = [some (.ref p), some (.int n), some (.int g), some (.ref r), x]) ⟨[], _, gr, .nil, RowsAt.nil hr0 er, rfl⟩ (fun i σ' H' hi h => ?_) (fun σ' H' h => ?_)⟩
  · obtain ⟨as, x, gS, nd, ra, rfl⟩ := h
    have hp' : SqT K H' p [.int t, .int b] := gS.tup hp
    refine ⟨_, rfl, .inl ⟨rfl, _, SqL.of ra.hr⟩, _, rfl, _, rfl, _, rfl, i, by omega, p, t, b, 0, g, 20, by rw [Int.add_comm]; rfl, hp', t0, t1, b1, by omega, by omega, by decide, by decide, g0, g1, fun r2 bs H2 g2 nb rb => ?_⟩
    have l1 := allW_len t0 (show 0 < b by omega) g0 g1 (i + 1) (by omega)
    have l2 : (Us.allW t b g i ++ Us.W i t b 0 g).length ≤ (i + 1) * 216000 := l1
    rw [List.length_append, ← ra.len, ← rb.len] at l2
    have ra2 := ra.same g2
    have l3 : (i + 1) * 216000 ≤ 4 * 216000 := Nat.mul_le_mul_right _ (by omega)
    refine ⟨r, r2, _, _, rfl, rfl, ra2.hr, rb.hr, by rw [List.length_map, List.length_map, sizeLine_eq]; omega, ?_⟩
    refine ⟨as ++ bs, _, (gS.trans g2).put hr0, RowsAt.nodup_cat nd nb ra rb, ?_, rfl⟩
    exact ra2.cat rb gS ⟨_, ra.hr⟩
  · obtain ⟨as, x, gS, nd, ra, rfl⟩ := h
    refine ⟨_, rfl, q r as H' gS nd ?_⟩
    rw [show (n + 1 - 1).toNat = n.toNat by omega] at ra
    exact ra
def spB_all (K : PySem.W.Frag) (NF NB : Addr) : Sp := fun vs H Q E => ∃ (p : Addr) (t b n g : Int), vs = [.ref p, .int n, .int g] ∧ SqT K H p [.int t, .int b] ∧ badP NF NB t b H E
theorem calE_all_ways {NF NB : Addr} (D : Def K mg "all_ways" s_all_ways) (e_check_has_ways : Cal P w K mg base (CXE P w) "check_has_ways" ["fraction"] 2 (spE_has K NF NB)) (c_all_ways : Cal P w K mg base CX0 "all_ways" ["fraction", "most", "greatest"] 6 (sp_all_ways K)) : Cal P w K mg base (CXE P w) "all_ways" ["fraction", "most", "greatest"] 6 (fun vs H Q E => sp_all_ways K vs H Q E ∨ spB_all K NF NB vs H Q E) := by
  refine c_all_ways.toE.orE (D.calE sc_all_ways (fun _ _ _ _ _ _ us hl => match us, hl with | [_, _, _], _ => rfl) (fun vs H Q E h => ?_) (fun f cdv A outer s H vs Q E hr h => ?_))
  · obtain ⟨p, t, b, n, g, rfl, _⟩ := h
    rfl
  obtain ⟨p, t, b, n, g, rfl, hp, hb⟩ := h
  refine ⟨_, (pss_cons (ps_expr (pe_cal e_check_has_ways hr (passE own_cx) (pa_cons (pv 0) pa_nil)))
    pss_never), ?_⟩
  exact ⟨_, rfl, p, t, b, rfl, hp, hb⟩
def sp_fewest (K : PySem.W.Frag) : Sp := fun vs H Q _ => ∃ (p : Addr) (t b g : Int) , vs = [.ref p, .int g] ∧ SqT K H p [.int t, .int b] ∧ 0 < t ∧ t < b ∧ b ≤ Us.P2 20 ∧ 0 ≤ g ∧ g ≤ 60 ∧
  (∀ H', Same H H' → Us.allW t b g 4 = [] → Q .non H') ∧ ∀ (r : Addr) (H' : Hp) (row : List Int) (rows : List (List Int)), Us.allW t b g 4 = row :: rows → H r = none → Same H H' → H' r = some (.lst (row.map V.int)) → Q (.ref r) H'
theorem sc_fewest : FnScope ["fraction", "greatest", "ways"] ["fraction", "greatest"] (defScope s_fewest) := ⟨rfl, rfl, rfl, by decide +kernel, rfl, by decide +kernel, by decide +kernel⟩
theorem cal_fewest (D : Def K mg "fewest" s_fewest) (z_len : mg "len" = none) (c_all_ways : Cal P w K mg base CX0 "all_ways" ["fraction", "most", "greatest"] 6 (sp_all_ways K)) : Cal P w K mg base CX0 "fewest" ["fraction", "greatest"] 7 (sp_fewest K) := by
  refine D.cal sc_fewest (fun _ _ _ _ _ _ us hl => match us, hl with | [_, _], _ => rfl) (fun vs H Q E h => ?_) (fun f cdv A outer s H vs Q E hr h => ?_)
  · obtain ⟨p, t, b, g, rfl, _⟩ := h
    rfl
  obtain ⟨p, t, b, g, rfl, hp, t0, t1, b1, g0, g1, q1, q2⟩ := h
  refine ⟨_, (pss_cons (ps_set (i := 2) sc_fewest.nd rfl (Or.inl rfl) (pe_cal c_all_ways hr pass0 (pa_cons (pv 0) (pa_cons pe_int (pa_cons (pv 1) pa_nil)))))
    (pss_cons (ps_if (pt_cmpR op_eq (pe_callB call_len_seq (by rfl) z_len PySem.boot_len (pa_cons (pv 2) pa_nil)) pe_int (nomark _))
      (pss_one (ps_ret pe_non))
      pss_nil)
    (pss_one (ps_ret (pe_ix ix_list (pv 2) pe_int (fun _ _ => rfl)))))), ?_⟩
  refine ⟨_, rfl, _, rfl, p, t, b, 4, g, rfl, hp, t0, t1, b1, by decide, by decide, g0, g1, fun r as H' gS _ ra => ?_⟩
  have ra' : RowsAt H H' r as (Us.allW t b g 4) := ra
  refine ⟨_, rfl, r, _, rfl, .inl (SqL.of ra'.hr), rfl, _, rfl, ?_⟩
  rw [List.length_map]
  have len := ra'.len
  cases hw : Us.allW t b g 4 with
  | nil =>
    rw [hw] at len
    refine iteDT (by rw [len]; rfl) ?_
    exact q1 H' gS hw
  | cons row rows =>
    rw [hw] at len
    refine iteDF (fun z => by have := V.int.inj z; rw [len, List.length_cons] at this; omega) ?_
    rw [hw] at ra'
    obtain ⟨a, ha, ha0, ha1⟩ := ra'.geti (i := 0) rfl
    refine ⟨_, rfl, r, _, _, _, rfl, rfl, SqL.of ra'.hr, atI_nat (j := 0) (by rw [List.getElem?_map, ha]; rfl), ?_⟩
    exact q2 a H' row rows hw ha0 gS ha1
def spB_few (K : PySem.W.Frag) (NF NB : Addr) : Sp := fun vs H Q E => ∃ (p : Addr) (t b g : Int), vs = [.ref p, .int g] ∧ SqT K H p [.int t, .int b] ∧ badP NF NB t b H E
theorem calE_fewest {NF NB : Addr} (D : Def K mg "fewest" s_fewest) (e_all_ways : Cal P w K mg base (CXE P w) "all_ways" ["fraction", "most", "greatest"] 6 (fun vs H Q E => sp_all_ways K vs H Q E ∨ spB_all K NF NB vs H Q E)) (c_fewest : Cal P w K mg base CX0 "fewest" ["fraction", "greatest"] 7 (sp_fewest K)) : Cal P w K mg base (CXE P w) "fewest" ["fraction", "greatest"] 7 (fun vs H Q E => sp_fewest K vs H Q E ∨ spB_few K NF NB vs H Q E) := by
  refine c_fewest.toE.orE (D.calE sc_fewest (fun _ _ _ _ _ _ us hl => match us, hl with | [_, _], _ => rfl) (fun vs H Q E h => ?_) (fun f cdv A outer s H vs Q E hr h => ?_))
  · obtain ⟨p, t, b, g, rfl, _⟩ := h
    rfl
  obtain ⟨p, t, b, g, rfl, hp, hb⟩ := h
  refine ⟨_, (pss_cons (ps_set (i := 2) sc_fewest.nd rfl (Or.inl rfl) (pe_cal e_all_ways hr (passE own_cx) (pa_cons (pv 0) (pa_cons pe_int (pa_cons (pv 1) pa_nil)))))
    pss_never), ?_⟩
  exact ⟨_, rfl, _, rfl, .inr ⟨p, t, b, 4, g, rfl, hp, hb⟩⟩
theorem sc_common_divisor : FnScope ["one", "other", "rest"] ["one", "other"] (defScope s_common_divisor) := ⟨rfl, rfl, rfl, by decide +kernel, rfl, by decide +kernel, by decide +kernel⟩
theorem cal_common_divisor (D : Def K mg "common_divisor" s_common_divisor) : Cal P w K mg base CX0 "common_divisor" ["one", "other"] 1 sp_gcd := by
  refine D.cal sc_common_divisor (fun _ _ _ _ _ _ us hl => match us, hl with | [_, _], _ => rfl) (fun vs H Q E h => ?_) (fun f cdv A outer s H vs Q E hr h => ?_)
  · obtain ⟨a, b, rfl, _⟩ := h
    rfl
  obtain ⟨a, b, rfl, h1, h2, q⟩ := h
  refine ⟨_, (pss_cons (ps_while PassesOwn.never (pt_cmpR op_gt (pv 1) pe_int (nomark _))
      (pss_cons (ps_set (i := 2) sc_common_divisor.nd rfl (Or.inl rfl) (pe_op op_mod (pv 0) (pv 1)))
        (pss_cons (ps_set (i := 0) sc_common_divisor.nd rfl (Or.inl rfl) (pv 1))
        (pss_one (ps_set (i := 1) sc_common_divisor.nd rfl (Or.inl rfl) (pv 2))))))
    (pss_one (ps_ret (pv 0)))), ?_⟩
  refine ⟨fun m σ' H' => H' = H ∧ ∃ x y r, σ' = [some (.int x), some (.int y), r] ∧ m = y.toNat ∧ 0 ≤ x ∧ 0 ≤ y ∧ Us.G x y = Us.G a b, ⟨_, rfl, a, b, none, rfl, rfl, h1, h2, rfl⟩, ?_⟩
  rintro m σ' H' ⟨rfl, x, y, r, rfl, rfl, hx, hy, e⟩
  refine ⟨_, rfl, _, _, rfl, rfl, _, rfl, ?_⟩
  refine ite2 (fun c => ?_) (fun c => ?_)
  · have c' : 0 < y := of_decide_eq_true c
    have l1 := Int.emod_lt_of_pos x c'
    have l2 := Int.emod_nonneg x (show y ≠ 0 by omega)
    refine ⟨_, fun _ _ h => h, ?_⟩
    refine ⟨_, rfl, _, rfl, _, _, rfl, rfl, c', _, rfl, _, rfl, ?_⟩
    exact ⟨_, (by omega : (x % y).toNat < y.toNat), rfl, y, x % y, _, rfl, rfl, hy, l2, (Us.G_turn x y).trans e⟩
  · have c' : ¬ 0 < y := of_decide_eq_false (Bool.eq_false_iff.mpr c)
    obtain rfl : y = 0 := by omega
    refine ⟨_, rfl, ?_⟩
    rw [Us.G_zero hx] at e
    rw [e]
    exact q
def sp_low0 (K : PySem.W.Frag) : Sp := fun vs H Q _ => ∃ (p : Addr) (t b : Int), vs = [.ref p] ∧ SqT K H p [.int t, .int b] ∧ 0 ≤ t ∧ 1 ≤ b ∧ b ≤ Us.P2 8999 ∧
  ∀ (r : Addr) (H' : Hp), H r = none → Same H H' → H' r = some (.tup [.int (Us.low t b).1, .int (Us.low t b).2]) → Q (.ref r) H'
theorem sc_lowest : FnScope ["fraction", "common"] ["fraction"] (defScope s_lowest) := ⟨rfl, rfl, rfl, by decide +kernel, rfl, by decide +kernel, by decide +kernel⟩
theorem cal_lowest (D : Def K mg "lowest" s_lowest) (c_check_fraction : Cal P w K mg base CX0 "check_fraction" ["fraction"] 1 (sp_check_fraction K)) (c_common_divisor : Cal P w K mg base CX0 "common_divisor" ["one", "other"] 1 sp_gcd) : Cal P w K mg base CX0 "lowest" ["fraction"] 2 (sp_low0 K) := by
  refine D.cal sc_lowest (fun _ _ _ _ _ _ us hl => match us, hl with | [_], _ => rfl) (fun vs H Q E h => ?_) (fun f cdv A outer s H vs Q E hr h => ?_)
  · obtain ⟨p, t, b, rfl, _⟩ := h
    rfl
  obtain ⟨p, t, b, rfl, hp, t0, b0, hz, hq⟩ := h
  refine ⟨_, (pss_cons (ps_expr (pe_cal c_check_fraction hr pass0 (pa_cons (pv 0) pa_nil)))
    (pss_cons (ps_set (i := 1) sc_lowest.nd rfl (Or.inl rfl) (pe_cal c_common_divisor hr pass0 (pa_cons (pe_ix ix_tup (pv 0) pe_int (fun _ _ => rfl)) (pa_cons (pe_ix ix_tup (pv 0) pe_int (fun _ _ => rfl)) pa_nil))))
    (pss_one (ps_ret (pe_tup (pa_cons (pe_op op_fdivB (pe_ix ix_tup (pv 0) pe_int (fun _ _ => rfl)) (pv 1)) (pa_cons (pe_op op_fdivB (pe_ix ix_tup (pv 0) pe_int (fun _ _ => rfl)) (pv 1)) pa_nil))))))), ?_⟩
  refine ⟨_, rfl, p, t, b, rfl, hp, t0, b0, ?_⟩
  have gp := Us.G_pos (a := t) (show 0 < b by omega)
  have gl := Us.G_le (a := t) (show 0 < b by omega)
  have e1 : ∀ {i : Int}, CDivB i (Us.G t b) := fun {i} => ⟨gp, by omega⟩
  refine ⟨_, rfl, p, _, _, _, rfl, rfl, hp, at0, _, rfl, p, _, _, _, rfl, rfl, hp, at1, t, b, rfl, t0, by omega, ?_⟩
  refine ⟨_, rfl, p, _, _, _, rfl, rfl, hp, at0, _, rfl, _, _, rfl, rfl, e1, _, rfl, p, _, _, _, rfl, rfl, hp, at1, _, rfl, _, _, rfl, rfl, e1, (by decide : 2 ≤ sizeLine), fun r hr' => ?_⟩
  exact hq r _ hr' (Same.new hr' _) upd_same
def spE_low (K : PySem.W.Frag) (NF : Addr) : Sp := fun vs H Q E => ∃ (p : Addr) (t b : Int), vs = [.ref p] ∧ SqT K H p [.int t, .int b] ∧ ¬ (0 ≤ t ∧ 1 ≤ b) ∧ E (.ref NF) none H
theorem calE_lowest {NF : Addr} (D : Def K mg "lowest" s_lowest) (e_check_fraction : Cal P w K mg base (CXE P w) "check_fraction" ["fraction"] 1 (spE_check K NF)) : Cal P w K mg base (CXE P w) "lowest" ["fraction"] 2 (spE_low K NF) := by
  refine D.calE sc_lowest (fun _ _ _ _ _ _ us hl => match us, hl with | [_], _ => rfl) (fun vs H Q E h => ?_) (fun f cdv A outer s H vs Q E hr h => ?_)
  · obtain ⟨p, t, b, rfl, _⟩ := h
    rfl
  obtain ⟨p, t, b, rfl, hp, h1, h2⟩ := h
  refine ⟨_, (pss_cons (ps_expr (pe_cal e_check_fraction hr (passE own_cx) (pa_cons (pv 0) pa_nil)))
    pss_never), ?_⟩
  exact ⟨_, rfl, p, t, b, rfl, hp, fun _ => h2, fun a c => absurd ⟨a, c⟩ h1⟩
def sp_divisors : Sp := fun vs H Q _ => ∃ n : Int, vs = [.int n] ∧ 0 ≤ n ∧ n ≤ 100000 ∧ ∀ (r : Addr) (H' : Hp), H r = none → Same H H' → H' r = some (.lst ((divs n).map V.int)) → Q (.ref r) H'
theorem sc_divisors : FnScope ["number"] ["number"] (defScope s_divisors) := ⟨rfl, rfl, rfl, by decide +kernel, rfl, by decide +kernel, by decide +kernel⟩
theorem cal_divisors (D : Def K mg "divisors" s_divisors) (z_range : mg "range" = none) : Cal P w K mg base CX0 "divisors" ["number"] 1 sp_divisors := by
  refine D.cal sc_divisors (fun _ _ _ _ _ _ us hl => match us, hl with | [_], _ => rfl) (fun vs H Q E h => ?_) (fun f cdv A outer s H vs Q E hr h => ?_)
  · obtain ⟨n, rfl, _⟩ := h
    rfl
  obtain ⟨n, rfl, h0, h1, q⟩ := h
  refine ⟨_, (pss_one (ps_ret (pe_comp (slots := [0]) (hnd := (show List.Nodup (["tried", "number"] : List Str) by decide +kernel)) (pi_range2 (by rfl) z_range (pa_cons pe_int (pa_cons (pe_op op_add (pv 0) pe_int) pa_nil))) (fun C s2 H2 fp pn => (ptn1 (pt_cmpR op_eq (pe_op op_mod (pv 1) (pv 0)) pe_int (nomark _)) (pv 0)))))), ?_⟩
  refine ⟨_, rfl, _, _, rfl, rfl, 1, n + 1, rfl, ⟨by decide, by decide, by omega, by omega⟩, (n + 1 - 1).toNat, fun i ys H' => H' = H ∧ ys = (((Us.rng 1 n).take i).filter fun k => decide (n % k = 0)).map V.int, by omega, ⟨rfl, rfl⟩, ?_, ?_⟩
  · rintro i ys H' hi ⟨rfl, rfl⟩
    refine ⟨hi, fun v H2 h => ?_⟩
    obtain ⟨rfl, rfl⟩ := h
    refine ⟨_, rfl, _, rfl, _, _, rfl, rfl, (by omega : 0 < 1 + (i : Int)), rfl, _, rfl, ?_⟩
    have e := filter_take (p := fun k => decide (n % k = 0)) hi
    refine ite2 (fun c => ?_) (fun c => ?_)
    · have c' : n % (1 + (i : Int)) = 0 := V.int.inj (of_decide_eq_true c)
      refine ⟨_, rfl, rfl, ?_⟩
      rw [e, if_pos (decide_eq_true c'), List.map_append]
      rfl
    · have c' : ¬ n % (1 + (i : Int)) = 0 := fun z => c (decide_eq_true (congrArg V.int z))
      refine ⟨rfl, ?_⟩
      rw [e, if_neg (by rw [decide_eq_false c']; exact Bool.false_ne_true)]
  · rintro ys H' ⟨rfl, rfl⟩
    refine ⟨Nat.le_refl _, fun D hD => ?_⟩
    refine q D _ hD (Same.new hD _) ?_
    rw [upd_same, ← Us.rng_len, List.take_length]
    rfl
/-- what stands in the table of least counts when i divisors have been gone through -/
structure Cnt (ds : List Int) (most : Int) (kvs : List (Key × V)) (i : Nat) : Prop where
  keys : AllInt kvs
  nd : (kvs.map (·.1)).Nodup
  val : ∀ s v, valV kvs (Sum.inl s) = some v → ∃ c : Nat, v = .int c ∧ c ≤ i ∧ Us.ss (ds.take c) s = true ∧ s ≤ most ∧ ∀ j, j < c → Us.ss (ds.take j) s = false
  has : ∀ s, Us.ss (ds.take i) s = true → s ≤ most → ∃ v, valV kvs (Sum.inl s) = some v
/-- within the turn of place i, behind j of the totals -/
structure Cnt2 (ds : List Int) (most : Int) (kvs : List (Key × V)) (i : Nat) (ks : List Int) (j : Nat) : Prop where
  keys : AllInt kvs
  nd : (kvs.map (·.1)).Nodup
  val : ∀ s v, valV kvs (Sum.inl s) = some v → ∃ c : Nat, v = .int c ∧ c ≤ i + 1 ∧ Us.ss (ds.take c) s = true ∧ s ≤ most ∧ ∀ j, j < c → Us.ss (ds.take j) s = false
  has : ∀ s, Us.ss (ds.take i) s = true → s ≤ most → ∃ v, valV kvs (Sum.inl s) = some v
  more : ∀ t ∈ ks.take j, t + ds.getD i 0 ≤ most → ∃ v, valV kvs (Sum.inl (t + ds.getD i 0)) = some v
theorem Cnt.few {ds : List Int} {most : Int} {kvs : List (Key × V)} {i : Nat} (hd : ∀ d ∈ ds, 0 < d) (x : Cnt ds most kvs i) : kvs.length ≤ (most + 1).toNat :=
  dict_few x.keys x.nd fun s v h => by
    obtain ⟨c, _, _, h1, h2, _⟩ := x.val s v h
    exact ⟨Us.ss_nonneg (fun d q => hd d (List.mem_of_mem_take q)) h1, h2⟩
theorem Cnt2.few {ds : List Int} {most : Int} {kvs : List (Key × V)} {i : Nat} {ks : List Int} {j : Nat} (hd : ∀ d ∈ ds, 0 < d) (x : Cnt2 ds most kvs i ks j) : kvs.length ≤ (most + 1).toNat :=
  dict_few x.keys x.nd fun s v h => by
    obtain ⟨c, _, _, h1, h2, _⟩ := x.val s v h
    exact ⟨Us.ss_nonneg (fun d q => hd d (List.mem_of_mem_take q)) h1, h2⟩
/-- what the table says of one number -/
theorem Cnt.says {ds : List Int} {most : Int} {kvs : List (Key × V)} (x : Cnt ds most kvs ds.length) {s : Int} (h : s ≤ most) {p : Nat} (hp : p ≤ ds.length) : (∃ c : Nat, valV kvs (Sum.inl s) = some (.int c) ∧ c ≤ p) ↔ Us.ss (ds.take p) s = true := by
  constructor
  · rintro ⟨c, h1, h2⟩
    obtain ⟨c', e, _, h3, _, _⟩ := x.val s _ h1
    cases e
    exact Us.ss_take_mono h2 h3
  · intro h1
    obtain ⟨v, hv⟩ := x.has s (Us.ss_take_mono hp h1) h
    obtain ⟨c, e, _, h3, _, h5⟩ := x.val s v hv
    subst e
    refine ⟨c, hv, ?_⟩
    rcases Nat.lt_or_ge p c with lt | ge
    · have := h5 p lt
      rw [h1] at this
      cases this
    · exact ge
def sp_counts (K : PySem.W.Frag) : Sp := fun vs H Q _ => ∃ (p : Addr) (ds : List Int) (most : Int), vs = [.ref p, .int most] ∧ SqL K H p (ds.map V.int) ∧ (∀ d ∈ ds, 0 < d) ∧ 0 ≤ most ∧ most ≤ 100000 ∧
  ∀ (r : Addr) (H' : Hp) (kvs : List (Key × V)), H r = none → Same H H' → H' r = some (.dK kvs) → Cnt ds most kvs ds.length → Q (.ref r) H'
theorem sc_least_counts : FnScope ["found", "most", "counts", "place", "divisor", "total", "grown"] ["found", "most"] (defScope s_least_counts) := ⟨rfl, rfl, rfl, by decide +kernel, rfl, by decide +kernel, by decide +kernel⟩
set_option maxHeartbeats 4000000 in
theorem cal_least_counts (D : Def K mg "least_counts" s_least_counts) (z_enumerate : mg "enumerate" = none) (z_list : mg "list" = none) : Cal P w K mg base CX0 "least_counts" ["found", "most"] 1 (sp_counts K) := by
  refine D.cal sc_least_counts (fun _ _ _ _ _ _ us hl => match us, hl with | [_, _], _ => rfl) (fun vs H Q E h => ?_) (fun f cdv A outer s H vs Q E hr h => ?_)
  · obtain ⟨p, ds, most, rfl, _⟩ := h
    rfl
  obtain ⟨p, ds, most, rfl, hS, hd, m0, m1, q⟩ := h
  refine ⟨_, (pss_cons (ps_set (i := 2) sc_least_counts.nd rfl (Or.inl rfl) (pe_disp (pps_cons pe_int pe_int pps_nil) rfl rfl (fun h => nomatch h) (by decide)))
    (pss_cons (ps_for PassesOwn.never rfl (pi_enum (by rfl) z_enumerate (pa_cons (pv 0) pa_nil)) (pg_tup rfl (pgs_cons (pg_name (i := 3) sc_least_counts.nd rfl (Or.inl rfl)) (pgs_cons (pg_name (i := 4) sc_least_counts.nd rfl (Or.inl rfl)) pgs_nil)))
      (pss_one (ps_for PassesOwn.never rfl (pi_list (pe_callTy (call_listD rfl) (by rfl) z_list PyProof.Rows.boot_list (pa_cons (pv 2) pa_nil))) (pg_name (i := 5) sc_least_counts.nd rfl (Or.inl rfl))
          (pss_cons (ps_set (i := 6) sc_least_counts.nd rfl (Or.inl rfl) (pe_op op_add (pv 5) (pv 4)))
            (pss_one (ps_if (pw_and (pt_cmpR op_le (pv 6) (pv 1) (nomark _)) (pw_and1 (pt_cmp (pc_dnotin (hu_of hr) (pv 6) (pv 2))))).pt
              (pss_one (ps_dput (hu_of hr) (pv 2) (pv 6) (pe_op op_add (pv 3) pe_int) rfl))
              pss_nil))))))
    (pss_one (ps_ret (pv 2))))), ?_⟩
  refine fun r hr0 => ⟨upd_same, [(Sum.inl 0, .int 0)], rfl, by decide, ?_⟩
  have g0 : Same H (upd (upd H r (.dK [])) r (.dK [(Sum.inl 0, .int 0)])) := (Same.new hr0 _).put hr0
  have e0 : upd (upd H r (.dK [])) r (.dK [(Sum.inl 0, .int 0)]) r = some (.dK [(Sum.inl 0, .int 0)]) := upd_same
  have c0 : Cnt ds most [(Sum.inl 0, .int 0)] 0 := by
    refine ⟨fun kv h => ⟨0, by rw [List.mem_singleton.mp h]⟩, by simp, fun s v h => ?_, fun s h _ => ?_⟩
    · by_cases e : s = 0
      · subst e
        rw [valV_pos rfl] at h
        cases h
        exact ⟨0, rfl, Nat.le_refl _, by simp [Us.ss_nil], m0, fun j hj => absurd hj (Nat.not_lt_zero _)⟩
      · rw [valV_neg (fun z => e (Sum.inl.inj z).symm), valV_nil] at h
        cases h
    · have e : s = 0 := of_decide_eq_true h
      subst e
      exact ⟨_, valV_pos rfl⟩
  have hmg : mergeK [] [(Sum.inl 0, V.int 0)] = [(Sum.inl 0, V.int 0)] := rfl
  rw [hmg]
  generalize upd (upd H r (.dK [])) r (.dK [(Sum.inl 0, .int 0)]) = H0 at *
  refine ⟨_, rfl, p, rfl, ⟨_, g0.seq hS⟩, for_enum (xs := ds.map V.int) (fun i σ' H' => ∃ kvs x3 x4 x5 x6, Same H H' ∧ H' r = some (.dK kvs) ∧ Cnt ds most kvs i ∧ σ' = [some (.ref p), some (.int most), some (.ref r), x3, x4, x5, x6]) ⟨_, _, _, _, _, g0, e0, c0, rfl⟩ (fun i σ' H' _ h => h.elim fun _ h => by obtain ⟨_, _, _, _, g, _⟩ := h; exact g.seq hS) (fun i x σ' H' T hi h hT => ?_) (fun σ' H' h => ?_)⟩
  · obtain ⟨kvs, x3, x4, x5, x6, gS, er, ct, rfl⟩ := h
    obtain ⟨d, hdi, rfl⟩ := map_get hi
    have hil : i < ds.length := (List.getElem?_eq_some_iff.mp hdi).1
    have dv : ds.getD i 0 = d := by rw [List.getD_eq_getElem?_getD, hdi]; rfl
    have d0 : 0 < d := hd d (List.mem_of_getElem? hdi)
    have gT := Same.new hT (.tup [.int i, .int d])
    refine ⟨T, _, rfl, SqT.of upd_same, rfl, _, _, rfl, _, _, rfl, rfl, ?_⟩
    have er1 := gT _ _ er
    have gS1 := gS.trans gT
    generalize upd H' T (.tup [.int i, .int d]) = H1 at *
    refine ⟨_, rfl, r, kvs, rfl, er1, fun l hl => ?_⟩
    have gl := Same.new hl (.lst (kvs.map fun kv => kV kv.1))
    have nl : l ≠ r := fun z => by rw [z, er1] at hl; cases hl
    have el : upd H1 l (.lst (kvs.map fun kv => kV kv.1)) l = some (.lst ((kvs.map fun kv => kI kv.1).map V.int)) := by rw [upd_same, ct.keys.keys]
    have er2 := gl _ _ er1
    have gS2 := gS1.trans gl
    generalize upd H1 l (.lst (kvs.map fun kv => kV kv.1)) = H2 at *
    generalize hks : (kvs.map fun kv => kI kv.1) = ks at *
    have mks : ∀ t, t ∈ ks ↔ ∃ v, valV kvs (Sum.inl t) = some v := fun t => by rw [← hks]; exact key_mem ct.keys
    refine ⟨l, rfl, ⟨_, SqL.of el⟩, for_list (xs := ks.map V.int) (fun j σ' H' => ∃ kvs2 x5 x6, Same H H' ∧ H' r = some (.dK kvs2) ∧ H' l = some (.lst (ks.map V.int)) ∧ Cnt2 ds most kvs2 i ks j ∧ σ' = [some (.ref p), some (.int most), some (.ref r), some (.int i), some (.int d), x5, x6]) ⟨kvs, _, _, gS2, er2, el, ?_, rfl⟩ (fun j σ' H' _ h => ?_) (fun j x σ' H' hj h => ?_) (fun σ' H' h => ?_)⟩
    · exact ⟨ct.keys, ct.nd, fun s v h => by obtain ⟨c, y1, y2, y3⟩ := ct.val s v h; exact ⟨c, y1, by omega, y3⟩, ct.has, fun t h => (nomatch h)⟩
    · obtain ⟨_, _, _, _, _, el', _⟩ := h
      exact SqL.of el'
    · obtain ⟨kvs2, y5, y6, gS', er', el', c2, rfl⟩ := h
      obtain ⟨t, ht, rfl⟩ := map_get hj
      have tk : ks.take (j + 1) = ks.take j ++ [t] := by rw [List.take_add_one, ht]; rfl
      refine ⟨_, rfl, _, rfl, _, _, rfl, rfl, ?_⟩
      refine ⟨_, rfl, _, rfl, _, _, rfl, rfl, _, rfl, ?_⟩
      have fw : c2.few hd = c2.few hd := rfl
      have lf := c2.few hd
      refine ite2 (fun z1 => ?_) (fun z1 => ?_)
      · have z1' : t + d ≤ most := of_decide_eq_true z1
        refine ⟨_, rfl, _, rfl, r, _, rfl, DGet.k (k := Sum.inl (t + d)) er', _, rfl, ?_⟩
        cases hv : valV kvs2 (Sum.inl (t + d)) with
        | some v =>
          refine iteF ?_
          refine ⟨kvs2, _, _, gS', er', el', ⟨c2.keys, c2.nd, c2.val, c2.has, fun u hu hm => ?_⟩, rfl⟩
          rw [tk] at hu
          rcases List.mem_append.mp hu with hu | hu
          · exact c2.more u hu hm
          · rw [List.mem_singleton.mp hu, dv]
            exact ⟨v, hv⟩
        | none =>
          refine iteT ?_
          refine ⟨_, rfl, _, _, rfl, rfl, _, rfl, _, rfl, r, _, rfl, DPut.k (k := Sum.inl (t + d)) er' (by rw [sizeLine_eq]; omega), ?_⟩
          have tin : t ∈ ks := List.mem_of_getElem? ht
          obtain ⟨tv, htv⟩ := (mks t).1 tin
          obtain ⟨c, _, hc, hst, _, _⟩ := ct.val t tv htv
          have st : Us.ss (ds.take i) t = true := Us.ss_take_mono hc hst
          refine ⟨putK kvs2 (Sum.inl (t + d)) (.int ((i : Int) + 1)), _, _, gS'.put hr0, upd_same, by rw [upd_ne nl]; exact el', ⟨c2.keys.put _ _, nd_put _ c2.nd, fun s v h => ?_, fun s h hm => ?_, fun u hu hm => ?_⟩, rfl⟩
          · rw [valV_put] at h
            split at h
            · rename_i e
              cases h
              have e' : s = t + d := Sum.inl.inj e
              subst e'
              refine ⟨i + 1, by rw [Int.natCast_add]; rfl, Nat.le_refl _, ?_, z1', fun j' hj' => ?_⟩
              · rw [Us.ss_succ hil, dv, show t + d - d = t by omega, st, Bool.or_true]
              · cases hs : Us.ss (ds.take j') (t + d) with
                | false => rfl
                | true =>
                  obtain ⟨v, hv'⟩ := c2.has (t + d) (Us.ss_take_mono (by omega) hs) z1'
                  rw [hv] at hv'
                  cases hv'
            · exact c2.val s v h
          · obtain ⟨v, hv'⟩ := c2.has s h hm
            rw [valV_put]
            split
            · exact ⟨_, rfl⟩
            · exact ⟨v, hv'⟩
          · rw [valV_put]
            split
            · exact ⟨_, rfl⟩
            · rename_i ne
              rw [tk] at hu
              rcases List.mem_append.mp hu with hu | hu
              · exact c2.more u hu hm
              · rw [List.mem_singleton.mp hu, dv] at ne
                exact absurd rfl ne
      · refine iteF ?_
        refine ⟨kvs2, _, _, gS', er', el', ⟨c2.keys, c2.nd, c2.val, c2.has, fun u hu hm => ?_⟩, rfl⟩
        rw [tk] at hu
        rcases List.mem_append.mp hu with hu | hu
        · exact c2.more u hu hm
        · rw [List.mem_singleton.mp hu, dv] at hm
          exact absurd (decide_eq_true hm) z1
    · obtain ⟨kvs2, y5, y6, gS', er', el', c2, rfl⟩ := h
      rw [List.length_map] at c2
      refine ⟨kvs2, _, _, _, _, gS', er', ⟨c2.keys, c2.nd, c2.val, fun s h hm => ?_⟩, rfl⟩
      rw [Us.ss_succ hil] at h
      rcases (Bool.or_eq_true _ _).mp h with h | h
      · exact c2.has s h hm
      · obtain ⟨v, hv⟩ := ct.has (s - ds.getD i 0) h (by rw [dv]; omega)
        have := c2.more (s - ds.getD i 0) (by rw [List.take_length]; exact (mks _).2 ⟨v, hv⟩) (by omega)
        rw [show s - ds.getD i 0 + ds.getD i 0 = s by omega] at this
        exact this
  · obtain ⟨kvs, x3, x4, x5, x6, gS, er, ct, rfl⟩ := h
    rw [List.length_map] at ct
    exact ⟨_, rfl, q r H' kvs hr0 gS er ct⟩
def sp_parts (K : PySem.W.Frag) : Sp := fun vs H Q _ => ∃ n m : Int, vs = [.int n, .int m] ∧ 0 ≤ n ∧ n ≤ 100000 ∧ 0 ≤ m ∧ m ≤ 100000 ∧ (∀ H', Same H H' → Us.ss (divs n) m = false → Q .non H') ∧
  ∀ (r : Addr) (H' : Hp), H r = none → Same H H' → Us.ss (divs n) m = true → H' r = some (.lst ((Us.gw (divs n) (divs n).length m).1.map V.int)) → Q (.ref r) H'
theorem sc_parts : FnScope ["number", "wanted", "found", "counts", "told", "left", "place", "rest"] ["number", "wanted"] (defScope s_parts) := ⟨rfl, rfl, rfl, by decide +kernel, rfl, by decide +kernel, by decide +kernel⟩
set_option maxHeartbeats 4000000 in
theorem cal_parts (D : Def K mg "parts" s_parts) (z_range : mg "range" = none) (z_len : mg "len" = none) (c_divisors : Cal P w K mg base CX0 "divisors" ["number"] 1 sp_divisors) (c_least_counts : Cal P w K mg base CX0 "least_counts" ["found", "most"] 1 (sp_counts K)) : Cal P w K mg base CX0 "parts" ["number", "wanted"] 2 (sp_parts K) := by
  refine D.cal sc_parts (fun _ _ _ _ _ _ us hl => match us, hl with | [_, _], _ => rfl) (fun vs H Q E h => ?_) (fun f cdv A outer s H vs Q E hr h => ?_)
  · obtain ⟨n, m, rfl, _⟩ := h
    rfl
  obtain ⟨n, m, rfl, n0, n1, m0, m1, qN, qS⟩ := h
  refine ⟨_, (pss_cons (ps_set (i := 2) sc_parts.nd rfl (Or.inl rfl) (pe_cal c_divisors hr pass0 (pa_cons (pv 0) pa_nil)))
    (pss_cons (ps_set (i := 3) sc_parts.nd rfl (Or.inl rfl) (pe_cal c_least_counts hr pass0 (pa_cons (pv 2) (pa_cons (pv 1) pa_nil))))
    (pss_cons (ps_if (pt_cmp (pc_dnotin (hu_of hr) (pv 1) (pv 3)))
      (pss_one (ps_ret pe_non))
      pss_nil)
    (pss_cons (ps_set (i := 4) sc_parts.nd rfl (Or.inl rfl) (pe_lst pa_nil))
    (pss_cons (ps_set (i := 5) sc_parts.nd rfl (Or.inl rfl) (pv 1))
    (pss_cons (ps_for PassesOwn.never rfl (pi_rangeD (by rfl) z_range (pa_cons (pe_op op_sub (pe_callB call_len_seq (by rfl) z_len PySem.boot_len (pa_cons (pv 2) pa_nil)) pe_int) (pa_cons (pe_un un_neg pe_int) (pa_cons (pe_un un_neg pe_int) pa_nil)))) (pg_name (i := 6) sc_parts.nd rfl (Or.inl rfl))
      (pss_cons (ps_set (i := 7) sc_parts.nd rfl (Or.inl rfl) (pe_op op_sub (pv 5) (pe_ix ix_list (pv 2) (pv 6) (fun _ _ => rfl))))
        (pss_one (ps_if (pw_and (pt_cmp (pc_din (hu_of hr) (pv 7) (pv 3))) (pw_and1 (pt_cmpR op_le (pe_dget (hu_of hr) (pv 3) (pv 7) (fun _ _ => rfl)) (pv 6) (nomark _)))).pt
          (pss_cons (ps_expr (pe_bm PySem.F.plainAttrs_list PySem.F.slot_list_append PySem.F.type_list_append mt_append (pv 4) (pa_cons (pe_ix ix_list (pv 2) (pv 6) (fun _ _ => rfl)) pa_nil)))
            (pss_one (ps_set (i := 5) sc_parts.nd rfl (Or.inl rfl) (pv 7))))
          pss_nil))))
    (pss_one (ps_ret (pv 4))))))))), ?_⟩
  refine ⟨_, rfl, n, rfl, n0, n1, fun pd H1 hpd g1 ed => ?_⟩
  have dl := divs_len n
  have dp := divs_pos (n := n)
  generalize divs n = ds at *
  refine ⟨_, rfl, _, rfl, pd, ds, m, rfl, SqL.of ed, dp, m0, m1, fun pc H2 kvs hpc g2 ec ct => ?_⟩
  have ed2 := g2 _ _ ed
  have g12 := g1.trans g2
  refine ⟨_, rfl, _, rfl, pc, _, rfl, DGet.k (k := Sum.inl m) ec, _, rfl, ?_⟩
  have says : ∀ s : Int, s ≤ m → ∀ p, p ≤ ds.length → ((∃ c : Nat, valV kvs (Sum.inl s) = some (.int c) ∧ c ≤ p) ↔ Us.ss (ds.take p) s = true) := fun s hs p hp => ct.says hs hp
  cases hv : valV kvs (Sum.inl m) with
  | none =>
    refine iteT ?_
    refine qN H2 g12 ?_
    cases hss : Us.ss ds m with
    | false => rfl
    | true =>
      obtain ⟨c, hc, _⟩ := (says m (Int.le_refl _) ds.length (Nat.le_refl _)).2 (by rw [List.take_length]; exact hss)
      rw [hv] at hc
      cases hc
  | some v =>
    refine iteF ?_
    have hss : Us.ss ds m = true := by
      obtain ⟨c, rfl, hc, _⟩ := ct.val m v hv
      have := (says m (Int.le_refl _) ds.length (Nat.le_refl _)).1 ⟨c, hv, hc⟩
      rw [List.take_length] at this
      exact this
    refine ⟨(by decide : 0 ≤ sizeLine), fun r hr0 => ?_⟩
    have gr := Same.new hr0 (.lst [])
    have er : upd H2 r (.lst []) r = some (.lst ([].map V.int)) := upd_same
    have ed3 := gr _ _ ed2
    have ec3 := gr _ _ ec
    have hrH := g12.free hr0
    have g3 := g12.trans gr
    have nd : pd ≠ r := fun z => by rw [← z, ed2] at hr0; cases hr0
    have nc : pc ≠ r := fun z => by rw [← z, ec] at hr0; cases hr0
    generalize upd H2 r (.lst []) = H3 at *
    refine ⟨_, rfl, ?_⟩
    refine ⟨_, rfl, pd, _, rfl, .inl (SqL.of ed3), _, _, rfl, rfl, _, rfl, _, rfl, _, _, rfl, ⟨by rw [List.length_map]; omega, by rw [List.length_map]; omega, by decide, by decide⟩, for_down (n := (((ds.map V.int).length : Int) - 1 - -1).toNat)
      (fun i σ' H' => ∃ told left x6 x7, Same H H' ∧ H' pd = some (.lst (ds.map V.int)) ∧ H' pc = some (.dK kvs) ∧ H' r = some (.lst (told.map V.int)) ∧ 0 ≤ left ∧ left ≤ m ∧ told.length ≤ i ∧ told ++ (Us.gw ds (ds.length - i) left).1 = (Us.gw ds ds.length m).1 ∧
        σ' = [some (.int n), some (.int m), some (.ref pd), some (.ref pc), some (.ref r), some (.int left), x6, x7]) ⟨[], m, _, _, g3, ed3, ec3, er, m0, Int.le_refl _, Nat.le_refl _, rfl, rfl⟩ (fun i σ' H' hi h => ?_) (fun σ' H' h => ?_)⟩
    · obtain ⟨told, left, x6, x7, gS, ed', ec', er', l0, l1, tl, tg, rfl⟩ := h
      rw [List.length_map] at hi
      have hi' : i < ds.length := by omega
      obtain ⟨k, hk⟩ : ∃ k, ds.length - i = k + 1 := ⟨ds.length - i - 1, by omega⟩
      have hk2 : ds.length - (i + 1) = k := by omega
      have kl : k < ds.length := by omega
      have pk : ((ds.map V.int).length : Int) - 1 - (i : Int) = (k : Int) := by rw [List.length_map]; omega
      rw [pk]
      clear pk
      have at' : atI (ds.map V.int) (k : Int) = some (.int (ds.getD k 0)) := by
        have := at_int (ns := ds) (i := (k : Int)) (by omega) (by omega)
        rw [show (k : Int).toNat = k from rfl] at this
        exact this
      have dk0 : 0 < ds.getD k 0 := by
        rw [List.getD_eq_getElem?_getD, List.getElem?_eq_getElem kl]
        exact dp _ (List.getElem_mem kl)
      refine ⟨_, rfl, _, rfl, _, rfl, pd, _, _, _, rfl, rfl, SqL.of ed', at', _, _, rfl, rfl, ?_⟩
      refine ⟨_, rfl, _, rfl, pc, _, rfl, DGet.k (k := Sum.inl (left - ds.getD k 0)) ec', _, rfl, ?_⟩
      have key := says (left - ds.getD k 0) (by omega) k (by omega)
      rw [hk] at tg
      have no : ¬ Us.ss (ds.take k) (left - ds.getD k 0) = true → told ++ (Us.gw ds (ds.length - (i + 1)) left).1 = (Us.gw ds ds.length m).1 := fun c => by
        rw [hk2, ← tg, Us.gw_neg c]
      cases hv2 : valV kvs (Sum.inl (left - ds.getD k 0)) with
      | none =>
        refine iteF (iteF ?_)
        refine ⟨told, left, _, _, gS, ed', ec', er', l0, l1, by omega, no fun c => ?_, rfl⟩
        obtain ⟨c', hc', _⟩ := key.2 c
        rw [hv2] at hc'
        cases hc'
      | some v2 =>
        refine iteT ?_
        obtain ⟨c, rfl, _⟩ := ct.val _ v2 hv2
        refine ⟨_, rfl, _, rfl, pc, _, rfl, by rw [← hv2]; exact DGet.k (k := Sum.inl (left - ds.getD k 0)) ec', _, rfl, _, _, rfl, rfl, _, rfl, ?_⟩
        refine ite2 (fun z => ?_) (fun z => ?_)
        · have z' : (c : Int) ≤ (k : Int) := of_decide_eq_true z
          have yes := key.1 ⟨c, hv2, by omega⟩
          have l2 := Us.ss_nonneg (fun d q => dp d (List.mem_of_mem_take q)) yes
          refine ⟨_, rfl, .inl ⟨rfl, _, SqL.of er'⟩, _, rfl, _, rfl, pd, _, _, _, rfl, rfl, SqL.of ed', at', r, _, _, rfl, rfl, er', by rw [List.length_map, sizeLine_eq]; omega, ?_⟩
          refine ⟨_, rfl, ?_⟩
          refine ⟨told ++ [ds.getD k 0], left - ds.getD k 0, _, _, gS.put hrH, by rw [upd_ne nd]; exact ed', by rw [upd_ne nc]; exact ec', by rw [upd_same, List.map_append]; rfl, l2, by omega, by rw [List.length_append, List.length_singleton]; omega, ?_, rfl⟩
          rw [hk2, ← tg]
          rw [Us.gw_pos yes, List.append_assoc]
          rfl
        · refine ⟨told, left, _, _, gS, ed', ec', er', l0, l1, by omega, no fun c' => ?_, rfl⟩
          obtain ⟨c2, hc2, hc3⟩ := key.2 c'
          rw [hv2] at hc2
          cases hc2
          exact z (decide_eq_true (by omega))
    · obtain ⟨told, left, x6, x7, gS, ed', ec', er', l0, l1, tl, tg, rfl⟩ := h
      rw [List.length_map, show ds.length - ((ds.length : Int) - 1 - -1).toNat = 0 by omega] at tg
      have tg' : told = (Us.gw ds ds.length m).1 := by
        rw [← tg]
        show told = told ++ []
        rw [List.append_nil]
      rw [tg'] at er'
      exact ⟨_, rfl, qS r H' hrH gS hss er'⟩
def sp_goes (K : PySem.W.Frag) : Sp := fun vs H Q _ => ∃ (p : Addr) (t b most : Int), vs = [.ref p, .int most] ∧ SqT K H p [.int t, .int b] ∧ 0 < t ∧ t < b ∧ b ≤ Us.P2 20 ∧ 1 ≤ most ∧ most ≤ 1000 ∧ GoesQ H (Us.low t b).1 (Us.low t b).2 most Q
theorem sc_goes_by : FnScope ["fraction", "most", "low", "times", "number", "told"] ["fraction", "most"] (defScope s_goes_by) := ⟨rfl, rfl, rfl, by decide +kernel, rfl, by decide +kernel, by decide +kernel⟩
set_option maxHeartbeats 4000000 in
theorem cal_goes_by (D : Def K mg "goes_by" s_goes_by) (z_range : mg "range" = none) (z_min : mg "min" = none) (c_check_has_ways : Cal P w K mg base CX0 "check_has_ways" ["fraction"] 2 (sp_check_has_ways K)) (c_lowest : Cal P w K mg base CX0 "lowest" ["fraction"] 2 (sp_low0 K)) (c_parts : Cal P w K mg base CX0 "parts" ["number", "wanted"] 2 (sp_parts K)) : Cal P w K mg base CX0 "goes_by" ["fraction", "most"] 3 (sp_goes K) := by
  refine D.cal sc_goes_by (fun _ _ _ _ _ _ us hl => match us, hl with | [_, _], _ => rfl) (fun vs H Q E h => ?_) (fun f cdv A outer s H vs Q E hr h => ?_)
  · obtain ⟨p, t, b, most, rfl, _⟩ := h
    rfl
  obtain ⟨p, t, b, most, rfl, hp, t0, t1, b1, k0, k1, qN, qS⟩ := h
  refine ⟨_, (pss_cons (ps_expr (pe_cal c_check_has_ways hr pass0 (pa_cons (pv 0) pa_nil)))
    (pss_cons (ps_set (i := 2) sc_goes_by.nd rfl (Or.inl rfl) (pe_cal c_lowest hr pass0 (pa_cons (pv 0) pa_nil)))
    (pss_cons (ps_for PassesOwn.never rfl (pi_range2 (by rfl) z_range (pa_cons pe_int (pa_cons (pe_op op_add (pe_callB (call_min2 rfl) (by rfl) z_min PyProof.Rows.boot_min (pa_cons (pv 1) (pa_cons (pe_op op_fdivB pe_int (pe_ix ix_tup (pv 2) pe_int (fun _ _ => rfl))) pa_nil))) pe_int) pa_nil))) (pg_name (i := 3) sc_goes_by.nd rfl (Or.inl rfl))
      (pss_cons (ps_set (i := 4) sc_goes_by.nd rfl (Or.inr rfl) (pe_op op_mulB (pv 3) (pe_ix ix_tup (pv 2) pe_int (fun _ _ => rfl))))
        (pss_cons (ps_set (i := 5) sc_goes_by.nd rfl (Or.inl rfl) (pe_cal c_parts hr pass0 (pa_cons (pv 4) (pa_cons (pe_op op_mulB (pv 3) (pe_ix ix_tup (pv 2) pe_int (fun _ _ => rfl))) pa_nil))))
        (pss_one (ps_if (pt_cmpR op_notN (pv 5) pe_non (nomark _))
          (pss_one (ps_ret (pe_tup (pa_cons (pv 3) (pa_cons (pe_comp (slots := [4]) (hnd := (show List.Nodup (["part", "number"] : List Str) by decide +kernel)) (pi_list (pv 5)) (fun C s2 H2 fp pn => (ptn0 (pe_op op_fdivB (pv 1) (pv 0))))) pa_nil)))))
          pss_nil)))))
    (pss_one (ps_ret pe_non))))), ?_⟩
  have pp : (2 : Int) ^ 64 ≤ Us.P2 9000 := Us.P2_lit (Int.le_refl _) (by decide)
  have pq : Us.P2 20 ≤ Us.P2 8999 := Us.P2_mono (by decide)
  have pz : (2 : Int) ^ 64 ≤ Us.P2 8999 := Us.P2_lit (Int.le_refl _) (by decide)
  have pr : Us.P2 20 ≤ 2 ^ 30 := by unfold Us.P2; decide +kernel
  refine ⟨_, rfl, p, t, b, rfl, hp, t0, t1, ?_⟩
  refine ⟨_, rfl, p, t, b, rfl, hp, by omega, by omega, by omega, fun pl H1 hpl g1 el => ?_⟩
  have lb := Us.low_between t0 t1
  have lz := Us.low_snd_le (t := t) (b := b) (by omega)
  generalize (Us.low t b).1 = T at *
  generalize (Us.low t b).2 = B at *
  have d0 : 0 ≤ 1000 / B := Int.ediv_nonneg (by decide) (by omega)
  have d1 : 1000 / B ≤ 1000 := Int.ediv_le_self _ (by decide)
  refine ⟨_, rfl, _, rfl, pl, _, _, _, rfl, rfl, SqT.of el, at1, _, _, rfl, rfl, ⟨by omega, by omega⟩, _, _, rfl, _, _, rfl, rfl, 1, _, rfl, ⟨by decide, by decide, by split <;> omega, by split <;> omega⟩, for_range (n := ((if 1000 / B < most then 1000 / B else most) + 1 - 1).toNat) (fun i σ' H' => Same H H' ∧ H' pl = some (.tup [.int T, .int B]) ∧ (∀ m, 1 ≤ m → m < 1 + (i : Int) → Goes T B m = false) ∧ ∃ x3 x4 x5, σ' = [some (.ref p), some (.int most), some (.ref pl), x3, x4, x5])
    ⟨g1, el, fun m a b => by omega, _, _, _, rfl⟩ (fun i σ' H' hi h => ?_) (fun σ' H' h => ?_)⟩
  · obtain ⟨gS, el', no, x3, x4, x5, rfl⟩ := h
    generalize hm : 1 + (i : Int) = m at *
    have mM : m ≤ 1000 / B ∧ m ≤ most := by split at hi <;> omega
    have Bm : m * B ≤ 1000 := by
      have e1 : m * B ≤ 1000 / B * B := Int.mul_le_mul_of_nonneg_right mM.1 (by omega)
      have e2 : 1000 / B * B ≤ 1000 := Int.ediv_mul_le _ (by omega)
      omega
    have Bc : m * B = B * m := Int.mul_comm m B
    have Tc : m * T = T * m := Int.mul_comm m T
    have B0 : 0 < B * m := Int.mul_pos (by omega) (by omega)
    have T0 : 0 < T * m := Int.mul_pos (by omega) (by omega)
    have TB : T * m ≤ B * m := Int.mul_le_mul_of_nonneg_right (by omega) (by omega)
    refine ⟨_, rfl, _, rfl, pl, _, _, _, rfl, rfl, SqT.of el', at1, _, _, rfl, rfl, ⟨⟨by omega, by omega⟩, ⟨by omega, by omega⟩⟩, ?_⟩
    refine ⟨_, rfl, _, rfl, _, rfl, pl, _, _, _, rfl, rfl, SqT.of el', at0, _, _, rfl, rfl, ⟨⟨by omega, by omega⟩, ⟨by omega, by omega⟩⟩, m * B, m * T, rfl, by omega, by omega, by omega, by omega, fun H2 g2 hss => ?_, fun r2 H2 hr2 g2 hss e2 => ?_⟩
    · rw [Bc, Tc] at hss
      refine ⟨_, rfl, rfl, _, rfl, iteNS rfl ?_⟩
      refine ⟨gS.trans g2, g2 _ _ el', fun m' a b => ?_, _, _, _, rfl⟩
      by_cases e : m' < m
      · exact no m' a e
      · obtain rfl : m' = m := by omega
        exact hss
    · rw [Bc, Tc] at hss e2
      dsimp only
      rw [Bc]
      refine ⟨_, rfl, rfl, _, rfl, ?_⟩
      rw [decide_eq_false (fun h => by cases h)]
      refine iteT ?_
      have gm := gw_divs (n := B * m) (m := T * m)
      have gl := Us.gw_len (ds := divs (B * m)) (divs (B * m)).length (T * m)
      have dl := divs_len (B * m)
      have hsh : sharesOf T B m = (Us.gw (divs (B * m)) (divs (B * m)).length (T * m)).1.map (B * m / ·) := rfl
      generalize (Us.gw (divs (B * m)) (divs (B * m)).length (T * m)).1 = xs at *
      refine ⟨_, rfl, _, rfl, r2, rfl, ⟨_, SqL.of e2⟩, xs.length, fun i ys H' => H' = H2 ∧ ys = ((xs.take i).map (B * m / ·)).map V.int, by omega, ⟨rfl, rfl⟩, ?_, ?_⟩
      · rintro i ys H' hi' ⟨rfl, rfl⟩
        have hx : (xs.map V.int)[i]? = some (.int xs[i]) := by rw [List.getElem?_map, List.getElem?_eq_getElem hi']; rfl
        refine ⟨⟨_, _, SqL.of e2, hx⟩, fun v H3 h => ?_⟩
        obtain ⟨rfl, h⟩ := h
        obtain rfl : V.int xs[i] = v := Option.some.inj (hx.symm.trans (h _ (SqL.of e2)))
        obtain ⟨x0, xd⟩ := gm xs[i] (List.getElem_mem hi')
        have xl : xs[i] ≤ 1000 := Int.le_trans (Int.le_of_dvd B0 (Int.dvd_of_emod_eq_zero xd)) (by omega)
        refine ⟨_, rfl, _, rfl, _, _, rfl, rfl, ⟨x0, by omega⟩, ?_⟩
        refine ⟨rfl, ?_⟩
        rw [List.take_add_one, List.getElem?_eq_getElem hi', List.map_append, List.map_append]
        rfl
      · rintro ys H' ⟨rfl, rfl⟩
        rw [List.take_length]
        refine ⟨⟨_, SqL.of e2, by rw [List.length_map]; exact Nat.le_refl _⟩, fun l hl => ?_⟩
        refine ⟨(by decide : 2 ≤ sizeLine), fun r hr' => ?_⟩
        have g3 := Same.new hl (.lst ((xs.map (B * m / ·)).map V.int))
        have nl : l ≠ r := fun z => by rw [← z, upd_same] at hr'; cases hr'
        refine qS m r l _ (by omega) mM.2 (by omega) hss (fun m' a b => no m' a b) (((gS.trans g2).trans g3).free hr') ((gS.trans g2).free hl) nl (((gS.trans g2).trans g3).trans (Same.new hr' _)) ?_ upd_same
        rw [upd_ne nl, upd_same, hsh]
  · obtain ⟨gS, el', no, x3, x4, x5, rfl⟩ := h
    refine qN H' gS fun m a b c => no m a ?_
    have e1 : m ≤ 1000 / B := (Int.le_ediv_iff_mul_le (by omega)).mpr (by rw [Int.mul_comm]; exact c)
    split <;> omega
def spB_goes (K : PySem.W.Frag) (NF NB : Addr) : Sp := fun vs H Q E => ∃ (p : Addr) (t b g : Int), vs = [.ref p, .int g] ∧ SqT K H p [.int t, .int b] ∧ badP NF NB t b H E
theorem calE_goes_by {NF NB : Addr} (D : Def K mg "goes_by" s_goes_by) (e_check_has_ways : Cal P w K mg base (CXE P w) "check_has_ways" ["fraction"] 2 (spE_has K NF NB)) (c_goes_by : Cal P w K mg base CX0 "goes_by" ["fraction", "most"] 3 (sp_goes K)) : Cal P w K mg base (CXE P w) "goes_by" ["fraction", "most"] 3 (fun vs H Q E => sp_goes K vs H Q E ∨ spB_goes K NF NB vs H Q E) := by
  refine c_goes_by.toE.orE (D.calE sc_goes_by (fun _ _ _ _ _ _ us hl => match us, hl with | [_, _], _ => rfl) (fun vs H Q E h => ?_) (fun f cdv A outer s H vs Q E hr h => ?_))
  · obtain ⟨p, t, b, g, rfl, _⟩ := h
    rfl
  obtain ⟨p, t, b, g, rfl, hp, hb⟩ := h
  refine ⟨_, (pss_cons (ps_expr (pe_cal e_check_has_ways hr (passE own_cx) (pa_cons (pv 0) pa_nil)))
    pss_never), ?_⟩
  exact ⟨_, rfl, p, t, b, rfl, hp, hb⟩
def sp_least : Sp := fun vs H Q _ => ∃ t b : Int, vs = [.int t, .int b] ∧ 0 < t ∧ t ≤ Us.P2 8999 ∧ Q (.int (Us.cl t b)) H
theorem sc_least_reaching_one : FnScope ["top", "bottom"] ["top", "bottom"] (defScope s_least_reaching_one) := ⟨rfl, rfl, rfl, by decide +kernel, rfl, by decide +kernel, by decide +kernel⟩
theorem cal_least_reaching_one (D : Def K mg "least_reaching_one" s_least_reaching_one) : Cal P w K mg base CX0 "least_reaching_one" ["top", "bottom"] 1 sp_least := by
  refine D.cal sc_least_reaching_one (fun _ _ _ _ _ _ us hl => match us, hl with | [_, _], _ => rfl) (fun vs H Q E h => ?_) (fun f cdv A outer s H vs Q E hr h => ?_)
  · obtain ⟨t, b, rfl, _⟩ := h
    rfl
  obtain ⟨t, b, rfl, h0, h1, q⟩ := h
  refine ⟨_, (pss_one (ps_ret (pe_op op_fdivB (pe_op op_sub (pe_op op_add (pv 1) (pv 0)) pe_int) (pv 0)))), ?_⟩
  exact ⟨_, rfl, _, rfl, _, _, rfl, rfl, _, _, rfl, rfl, _, rfl, _, _, rfl, rfl, ⟨h0, h1⟩, q⟩
def sp_rising_factors (K : PySem.W.Frag) : Sp := fun vs H Q _ => ∃ (p : Addr) (t b : Int), vs = [.ref p] ∧ SqT K H p [.int t, .int b] ∧ 0 < t ∧ t < b ∧ b ≤ 1000 ∧
  ∀ (r : Addr) (H' : Hp), H r = none → Same H H' → H' r = some (.lst ((Us.eng b t).map V.int)) → Q (.ref r) H'
theorem sc_rising_factors : FnScope ["fraction", "top", "bottom", "factors", "factor"] ["fraction"] (defScope s_rising_factors) := ⟨rfl, rfl, rfl, by decide +kernel, rfl, by decide +kernel, by decide +kernel⟩
theorem cal_rising_factors (D : Def K mg "rising_factors" s_rising_factors) (c_check_has_ways : Cal P w K mg base CX0 "check_has_ways" ["fraction"] 2 (sp_check_has_ways K)) (c_least_reaching_one : Cal P w K mg base CX0 "least_reaching_one" ["top", "bottom"] 1 sp_least) :
    Cal P w K mg base CX0 "rising_factors" ["fraction"] 3 (sp_rising_factors K) := by
  refine D.cal sc_rising_factors (fun _ _ _ _ _ _ us hl => match us, hl with | [_], _ => rfl) (fun vs H Q E h => ?_) (fun f cdv A outer s H vs Q E hr h => ?_)
  · obtain ⟨p, t, b, rfl, _⟩ := h
    rfl
  obtain ⟨p, t, b, rfl, hp, h0, h1, h2, q⟩ := h
  refine ⟨_, (pss_cons (ps_expr (pe_cal c_check_has_ways hr pass0 (pa_cons (pv 0) pa_nil)))
    (pss_cons (ps_set (i := 1) sc_rising_factors.nd rfl (Or.inl rfl) (pe_ix ix_tup (pv 0) pe_int (fun _ _ => rfl)))
    (pss_cons (ps_set (i := 2) sc_rising_factors.nd rfl (Or.inl rfl) (pe_ix ix_tup (pv 0) pe_int (fun _ _ => rfl)))
    (pss_cons (ps_set (i := 3) sc_rising_factors.nd rfl (Or.inl rfl) (pe_lst pa_nil))
    (pss_cons (ps_while PassesOwn.never (pt_cmpR op_gt (pv 1) pe_int (nomark _))
      (pss_cons (ps_set (i := 4) sc_rising_factors.nd rfl (Or.inl rfl) (pe_cal c_least_reaching_one hr pass0 (pa_cons (pv 1) (pa_cons (pv 2) pa_nil))))
        (pss_cons (ps_expr (pe_bm PySem.F.plainAttrs_list PySem.F.slot_list_append PySem.F.type_list_append mt_append (pv 3) (pa_cons (pv 4) pa_nil)))
        (pss_one (ps_set (i := 1) sc_rising_factors.nd rfl (Or.inl rfl) (pe_op op_sub (pe_op op_mulB (pv 1) (pv 4)) (pv 2)))))))
    (pss_one (ps_ret (pv 3)))))))), ?_⟩
  have m1 : ∀ n : Nat, 64 ≤ n → (2 : Int) ^ 64 ≤ Us.P2 n := fun n hn => Us.P2_lit (Int.le_refl _) hn
  have m2 := m1 8999 (by decide)
  have m3 := m1 9000 (by decide)
  refine ⟨_, rfl, p, t, b, rfl, hp, h0, h1, ?_⟩
  refine ⟨_, rfl, p, _, _, _, rfl, rfl, hp, at0, ?_⟩
  refine ⟨_, rfl, p, _, _, _, rfl, rfl, hp, at1, ?_⟩
  refine ⟨(by decide : 0 ≤ sizeLine), fun l hl => ?_⟩
  refine ⟨fun m σ' H' => Same H H' ∧ ∃ (x : Int) (fs : List Int) (z : Option V), σ' = [some (.ref p), some (.int x), some (.int b), some (.ref l), z] ∧ m = x.toNat ∧ 0 ≤ x ∧ x < b ∧ H' l = some (.lst (fs.map V.int)) ∧ fs ++ Us.eng b x = Us.eng b t,
    ⟨_, Same.new hl _, t, [], none, rfl, rfl, by omega, h1, upd_same, rfl⟩, ?_⟩
  rintro m σ' H' ⟨g, x, fs, z, rfl, rfl, x0, x1, hL, e⟩
  refine ⟨_, rfl, _, _, rfl, rfl, _, rfl, ?_⟩
  refine ite2 (fun c => ?_) (fun c => ?_)
  · have c' : 0 < x := of_decide_eq_true c
    obtain ⟨g1, g2⟩ := Us.cl_spec (b := b) c'
    have g3 := Us.cl_pos (b := b) c' (by omega)
    have g4 := Us.cl_le (b := b) c' (by omega)
    rw [Us.eng_pos c'] at e
    have len : fs.length ≤ 1000 := by
      have l1 := Us.eng_len (b := b) t (by omega)
      rw [← e, List.length_append] at l1
      omega
    refine ⟨_, fun _ _ h => h, ?_⟩
    refine ⟨_, rfl, _, rfl, x, b, rfl, c', by omega, ?_⟩
    refine ⟨_, rfl, .inl ⟨rfl, _, SqL.of hL⟩, _, rfl, l, _, _, rfl, rfl, hL, small1000 (by rw [List.length_map]; exact len), ?_⟩
    refine ⟨_, rfl, _, rfl, _, _, rfl, rfl, ⟨⟨by omega, by omega⟩, ⟨by omega, by omega⟩⟩, _, rfl, _, _, rfl, rfl, ?_⟩
    refine ⟨_, (by omega : (x * Us.cl x b - b).toNat < x.toNat), ?_, _, fs ++ [Us.cl x b], _, rfl, rfl, by omega, by omega, ?_, ?_⟩
    · exact fun a o q => by rw [upd_ne (ne_of_none q hl)]; exact g a o q
    · rw [upd_same, List.map_append]
      rfl
    · rw [List.append_assoc]
      exact e
  · have c' : ¬ 0 < x := of_decide_eq_false (Bool.eq_false_iff.mpr c)
    rw [Us.eng_zero c', List.append_nil] at e
    refine ⟨_, rfl, q l H' hl g ?_⟩
    rw [← e]
    exact hL
def spB_rising_factors (K : PySem.W.Frag) (NF NB : Addr) : Sp := fun vs H Q E => ∃ (p : Addr) (t b : Int), vs = [.ref p] ∧ SqT K H p [.int t, .int b] ∧ badP NF NB t b H E
theorem calE_rising_factors {NF NB : Addr} (D : Def K mg "rising_factors" s_rising_factors) (e_check_has_ways : Cal P w K mg base (CXE P w) "check_has_ways" ["fraction"] 2 (spE_has K NF NB)) (c_rising_factors : Cal P w K mg base CX0 "rising_factors" ["fraction"] 3 (sp_rising_factors K)) : Cal P w K mg base (CXE P w) "rising_factors" ["fraction"] 3 (fun vs H Q E => sp_rising_factors K vs H Q E ∨ spB_rising_factors K NF NB vs H Q E) := by
  refine c_rising_factors.toE.orE (D.calE sc_rising_factors (fun _ _ _ _ _ _ us hl => match us, hl with | [_], _ => rfl) (fun vs H Q E h => ?_) (fun f cdv A outer s H vs Q E hr h => ?_))
  · obtain ⟨p, t, b, rfl, _⟩ := h
    rfl
  obtain ⟨p, t, b, rfl, hp, hb⟩ := h
  refine ⟨_, (pss_cons (ps_expr (pe_cal e_check_has_ways hr (passE own_cx) (pa_cons (pv 0) pa_nil)))
    pss_never), ?_⟩
  exact ⟨_, rfl, p, t, b, rfl, hp, hb⟩
def sp_rising (K : PySem.W.Frag) : Sp := fun vs H Q _ => ∃ (p : Addr) (t b : Int), vs = [.ref p] ∧ SqT K H p [.int t, .int b] ∧ 0 < t ∧ t < b ∧ b ≤ 1000 ∧ t ≤ 24 ∧
  ∀ (r : Addr) (H' : Hp), H r = none → Same H H' → H' r = some (.lst ((Us.prods 1 (Us.eng b t)).map V.int)) → Q (.ref r) H'
theorem sc_rising : FnScope ["fraction", "shares", "product", "factor"] ["fraction"] (defScope s_rising) := ⟨rfl, rfl, rfl, by decide +kernel, rfl, by decide +kernel, by decide +kernel⟩
theorem cal_rising (D : Def K mg "rising" s_rising) (c_rising_factors : Cal P w K mg base CX0 "rising_factors" ["fraction"] 3 (sp_rising_factors K)) : Cal P w K mg base CX0 "rising" ["fraction"] 4 (sp_rising K) := by
  refine D.cal sc_rising (fun _ _ _ _ _ _ us hl => match us, hl with | [_], _ => rfl) (fun vs H Q E h => ?_) (fun f cdv A outer s H vs Q E hr h => ?_)
  · obtain ⟨p, t, b, rfl, _⟩ := h
    rfl
  obtain ⟨p, t, b, rfl, hp, h0, h1, h2, h24, q⟩ := h
  refine ⟨_, (pss_cons (ps_set (i := 1) sc_rising.nd rfl (Or.inl rfl) (pe_lst pa_nil))
    (pss_cons (ps_set (i := 2) sc_rising.nd rfl (Or.inl rfl) pe_int)
    (pss_cons (ps_for PassesOwn.never rfl (pi_list (pe_cal c_rising_factors hr pass0 (pa_cons (pv 0) pa_nil))) (pg_name (i := 3) sc_rising.nd rfl (Or.inl rfl))
      (pss_cons (ps_set (i := 2) sc_rising.nd rfl (Or.inl rfl) (pe_op op_mulB (pv 2) (pv 3)))
        (pss_one (ps_expr (pe_bm PySem.F.plainAttrs_list PySem.F.slot_list_append PySem.F.type_list_append mt_append (pv 1) (pa_cons (pv 2) pa_nil))))))
    (pss_one (ps_ret (pv 1)))))), ?_⟩
  refine ⟨(by decide : 0 ≤ sizeLine), fun l hl => ?_⟩
  have g0 : Same H (upd H l (.lst [])) := Same.new hl _
  refine ⟨_, rfl, p, t, b, rfl, g0.tup hp, h0, h1, h2, fun r H1 hr1 g1 e1 => ?_⟩
  have hl1 : H1 l = some (.lst []) := g1 _ _ upd_same
  have rl : r ≠ l := fun e => by rw [e, upd_same] at hr1; cases hr1
  have short : (Us.eng b t).length ≤ 24 := by
    have := Us.eng_len (b := b) t (by omega)
    omega
  have good := (Us.eng_good (b := b) t (by omega) h1).1
  have small : ∀ f ∈ Us.eng b t, 0 < f ∧ f ≤ 1000 := fun f hf => by have := good f hf; omega
  refine ⟨r, rfl, ⟨_, SqL.of e1⟩, for_list (xs := (Us.eng b t).map V.int) (fun i σ' H' => Same H H' ∧ H' r = some (.lst ((Us.eng b t).map V.int)) ∧ H' l = some (.lst ((Us.prods 1 ((Us.eng b t).take i)).map V.int)) ∧
    ∃ z, σ' = [some (.ref p), some (.ref l), some (.int (Us.prodL 1 ((Us.eng b t).take i))), z]) ⟨g0.trans g1, e1, hl1, none, rfl⟩ (fun i σ' H' _ h => SqL.of h.2.1) (fun i x σ' H' hi h => ?_) (fun σ' H' h => ?_)⟩
  · obtain ⟨g, er, el, z, rfl⟩ := h
    obtain ⟨f, hf, rfl⟩ := map_get hi
    have hil : i < (Us.eng b t).length := (List.getElem?_eq_some_iff.mp hf).1
    obtain ⟨f0, f1⟩ := small f (List.mem_of_getElem? hf)
    have tk : (Us.eng b t).take (i + 1) = (Us.eng b t).take i ++ [f] := by rw [List.take_add_one, hf]; rfl
    have ps := Us.prodL_small ((Us.eng b t).take i) 1 0 (fun y hy => small y (List.mem_of_mem_take hy)) (by decide) (Us.P2_one _)
    have lt : ((Us.eng b t).take i).length ≤ 24 := by rw [List.length_take]; omega
    refine ⟨_, rfl, _, rfl, _, _, rfl, rfl, CMulB.of (by omega) ps.2 (by omega) (Us.P2_lit (n := 64) (by omega) (by decide)) (by omega) (by decide), ?_⟩
    refine ⟨_, rfl, .inl ⟨rfl, _, SqL.of el⟩, _, rfl, l, _, _, rfl, rfl, el, small1000 (by rw [List.length_map, Us.prods_len]; omega), ?_⟩
    refine ⟨fun a o q => by rw [upd_ne (ne_of_none q hl)]; exact g a o q, by rw [upd_ne rl]; exact er, ?_, some (.int f), ?_⟩
    · rw [upd_same, tk, Us.prods_snoc, List.map_append]
      rfl
    · rw [tk, Us.prodL_snoc]
      rfl
  · obtain ⟨g, er, el, z, rfl⟩ := h
    rw [List.length_map, List.take_length] at el
    exact ⟨_, rfl, q l H' hl g el⟩
def spB_rising (K : PySem.W.Frag) (NF NB : Addr) : Sp := fun vs H Q E => ∃ (p : Addr) (t b : Int), vs = [.ref p] ∧ SqT K H p [.int t, .int b] ∧ (∀ H', Same H H' → badP NF NB t b H' E)
theorem calE_rising {NF NB : Addr} (D : Def K mg "rising" s_rising) (e_rising_factors : Cal P w K mg base (CXE P w) "rising_factors" ["fraction"] 3 (fun vs H Q E => sp_rising_factors K vs H Q E ∨ spB_rising_factors K NF NB vs H Q E)) (c_rising : Cal P w K mg base CX0 "rising" ["fraction"] 4 (sp_rising K)) : Cal P w K mg base (CXE P w) "rising" ["fraction"] 4 (fun vs H Q E => sp_rising K vs H Q E ∨ spB_rising K NF NB vs H Q E) := by
  refine c_rising.toE.orE (D.calE sc_rising (fun _ _ _ _ _ _ us hl => match us, hl with | [_], _ => rfl) (fun vs H Q E h => ?_) (fun f cdv A outer s H vs Q E hr h => ?_))
  · obtain ⟨p, t, b, rfl, _⟩ := h
    rfl
  obtain ⟨p, t, b, rfl, hp, hb⟩ := h
  refine ⟨_, (pss_cons (ps_set (i := 1) sc_rising.nd rfl (Or.inl rfl) (pe_lst pa_nil))
    (pss_cons (ps_set (i := 2) sc_rising.nd rfl (Or.inl rfl) pe_int)
    (pss_cons (ps_for PassesOwn.leaving rfl (pi_list (pe_cal e_rising_factors hr (passE own_cx) (pa_cons (pv 0) pa_nil))) (pg_name (i := 3) sc_rising.nd rfl (Or.inl rfl))
      (pss_cons (ps_set (i := 2) sc_rising.nd rfl (Or.inl rfl) (pe_op op_mulB (pv 2) (pv 3)))
        (pss_one (ps_expr (pe_bm PySem.F.plainAttrs_list PySem.F.slot_list_append PySem.F.type_list_append mt_append (pv 1) (pa_cons (pv 2) pa_nil))))))
    pss_never))), ?_⟩
  refine ⟨(by decide : 0 ≤ sizeLine), fun l hl => ?_⟩
  have g := Same.new hl (.lst [])
  exact ⟨_, rfl, .inr ⟨p, t, b, rfl, g.tup hp, hb _ g⟩⟩
def sp_figures : Sp := fun vs H Q _ => ∃ n : Int, vs = [.int n] ∧ ¬ Us.LL ≤ n ∧ Q .non H
theorem LL_is : ((10 : Int) ^ (40 : Int).toNat) ^ (10 : Int).toNat = Us.LL := by unfold Us.LL; decide +kernel
theorem sc_check_figures : FnScope ["share"] ["share"] (defScope s_check_figures) := ⟨rfl, rfl, rfl, by decide +kernel, rfl, by decide +kernel, by decide +kernel⟩
theorem cal_check_figures (D : Def K mg "check_figures" s_check_figures) : Cal P w K mg base CX0 "check_figures" ["share"] 1 sp_figures := by
  refine D.cal sc_check_figures (fun _ _ _ _ _ _ us hl => match us, hl with | [_], _ => rfl) (fun vs H Q E h => ?_) (fun f cdv A outer s H vs Q E hr h => ?_)
  · obtain ⟨n, rfl, _⟩ := h
    rfl
  obtain ⟨n, rfl, hb, hq⟩ := h
  refine ⟨_, (pss_one (ps_if (pt_cmpR op_ge (pv 0) (pe_op op_powB (pe_op op_powB pe_int pe_int) pe_int) (nomark _))
      (pss_one ps_never)
      pss_nil)), ?_⟩
  refine ⟨_, rfl, _, _, rfl, rfl, ⟨by decide, by decide +kernel⟩, _, _, rfl, rfl, ⟨by decide, by decide +kernel⟩, _, _, rfl, rfl, _, rfl, ?_⟩
  rw [LL_is]
  refine iteDF hb ?_
  exact hq
def sp_greatest (K : PySem.W.Frag) : Sp := fun vs H Q _ => ∃ (p : Addr) (t b : Int) (xs : List Int), vs = [.ref p] ∧ SqT K H p [.int t, .int b] ∧ 0 < t ∧ t < b ∧ b ≤ 1000 ∧ Us.gr Us.LL t b = some xs ∧
  ∀ (r : Addr) (H' : Hp), H r = none → Same H H' → H' r = some (.lst (xs.map V.int)) → Q (.ref r) H'
theorem sc_greatest_first : FnScope ["fraction", "top", "bottom", "shares", "share"] ["fraction"] (defScope s_greatest_first) := ⟨rfl, rfl, rfl, by decide +kernel, rfl, by decide +kernel, by decide +kernel⟩
theorem cal_greatest_first (D : Def K mg "greatest_first" s_greatest_first) (c_check_has_ways : Cal P w K mg base CX0 "check_has_ways" ["fraction"] 2 (sp_check_has_ways K)) (c_least_reaching_one : Cal P w K mg base CX0 "least_reaching_one" ["top", "bottom"] 1 sp_least)
    (c_check_figures : Cal P w K mg base CX0 "check_figures" ["share"] 1 sp_figures) : Cal P w K mg base CX0 "greatest_first" ["fraction"] 3 (sp_greatest K) := by
  refine D.cal sc_greatest_first (fun _ _ _ _ _ _ us hl => match us, hl with | [_], _ => rfl) (fun vs H Q E h => ?_) (fun f cdv A outer s H vs Q E hr h => ?_)
  · obtain ⟨p, t, b, xs, rfl, _⟩ := h
    rfl
  obtain ⟨p, t, b, xs, rfl, hp, h0, h1, h2, hxs, hQ⟩ := h
  refine ⟨_, (pss_cons (ps_expr (pe_cal c_check_has_ways hr pass0 (pa_cons (pv 0) pa_nil)))
    (pss_cons (ps_set (i := 1) sc_greatest_first.nd rfl (Or.inl rfl) (pe_ix ix_tup (pv 0) pe_int (fun _ _ => rfl)))
    (pss_cons (ps_set (i := 2) sc_greatest_first.nd rfl (Or.inl rfl) (pe_ix ix_tup (pv 0) pe_int (fun _ _ => rfl)))
    (pss_cons (ps_set (i := 3) sc_greatest_first.nd rfl (Or.inl rfl) (pe_lst pa_nil))
    (pss_cons (ps_while PassesOwn.never (pt_cmpR op_gt (pv 1) pe_int (nomark _))
      (pss_cons (ps_set (i := 4) sc_greatest_first.nd rfl (Or.inl rfl) (pe_cal c_least_reaching_one hr pass0 (pa_cons (pv 1) (pa_cons (pv 2) pa_nil))))
        (pss_cons (ps_expr (pe_cal c_check_figures hr pass0 (pa_cons (pv 4) pa_nil)))
        (pss_cons (ps_expr (pe_bm PySem.F.plainAttrs_list PySem.F.slot_list_append PySem.F.type_list_append mt_append (pv 3) (pa_cons (pv 4) pa_nil)))
        (pss_cons (ps_set (i := 1) sc_greatest_first.nd rfl (Or.inl rfl) (pe_op op_sub (pe_op op_mulB (pv 1) (pv 4)) (pv 2)))
        (pss_one (ps_set (i := 2) sc_greatest_first.nd rfl (Or.inl rfl) (pe_op op_mulB (pv 2) (pv 4)))))))))
    (pss_one (ps_ret (pv 3)))))))), ?_⟩
  have m2 : (1000 : Int) ≤ Us.P2 2700 := Us.P2_lit (by decide) (by decide)
  have m3 : Us.P2 2700 ≤ Us.P2 8999 := Us.P2_mono (by decide)
  have m4 : Us.P2 2700 ≤ Us.P2 9000 := Us.P2_mono (by decide)
  have l1 := Us.LL_bits
  have l2 := Us.LL_two
  refine ⟨_, rfl, p, t, b, rfl, hp, h0, h1, ?_⟩
  refine ⟨_, rfl, p, _, _, _, rfl, rfl, hp, at0, ?_⟩
  refine ⟨_, rfl, p, _, _, _, rfl, rfl, hp, at1, ?_⟩
  refine ⟨(by decide : 0 ≤ sizeLine), fun l hl => ?_⟩
  refine ⟨fun m σ' H' => Same H H' ∧ ∃ (x y : Int) (fs : List Int) (z : Option V), σ' = [some (.ref p), some (.int x), some (.int y), some (.ref l), z] ∧ m = x.toNat ∧ 0 ≤ x ∧ x < y ∧ y ≤ Us.P2 2700 ∧ (fs.length : Int) + x ≤ t ∧ H' l = some (.lst (fs.map V.int)) ∧ Us.gr Us.LL t b = (Us.gr Us.LL x y).map (fs ++ ·),
    ⟨_, Same.new hl _, t, b, [], none, rfl, rfl, by omega, h1, by omega, by simp, upd_same, by cases Us.gr Us.LL t b <;> rfl⟩, ?_⟩
  rintro m σ' H' ⟨g, x, y, fs, z, rfl, rfl, x0, x1, y1, len, hL, e⟩
  refine ⟨_, rfl, _, _, rfl, rfl, _, rfl, ?_⟩
  refine ite2 (fun c => ?_) (fun c => ?_)
  · have c' : 0 < x := of_decide_eq_true c
    obtain ⟨g1, g2⟩ := Us.cl_spec (b := y) c'
    have g3 := Us.cl_pos (b := y) c' (by omega)
    have g4 := Us.cl_le (b := y) c' (by omega)
    refine ⟨_, fun _ _ h => h, ?_⟩
    refine ⟨_, rfl, _, rfl, x, y, rfl, c', by omega, ?_⟩
    have w : ¬ Us.LL ≤ Us.cl x y := fun w => by rw [hxs, Us.gr_none c' w] at e; cases e
    refine ⟨_, rfl, Us.cl x y, rfl, w, ?_⟩
    rw [Us.gr_pos c' w] at e
    have st := (Us.gr_step (T := 1000) c' (by omega) (show 0 < y by omega) w).1
    have yy : y * 1 ≤ y * Us.cl x y := Int.mul_le_mul_of_nonneg_left (by omega) (by omega)
    refine ⟨_, rfl, .inl ⟨rfl, _, SqL.of hL⟩, _, rfl, l, _, _, rfl, rfl, hL, small1000 (by rw [List.length_map]; omega), ?_⟩
    refine ⟨_, rfl, _, rfl, _, _, rfl, rfl, ⟨⟨by omega, by omega⟩, ⟨by omega, by omega⟩⟩, _, rfl, _, _, rfl, rfl, ?_⟩
    refine ⟨_, rfl, _, rfl, _, _, rfl, rfl, ⟨⟨by omega, by omega⟩, ⟨by omega, by omega⟩⟩, ?_⟩
    refine ⟨_, (by omega : (x * Us.cl x y - y).toNat < x.toNat), ?_, _, _, fs ++ [Us.cl x y], _, rfl, rfl, by omega, by omega, by omega, ?_, ?_, ?_⟩
    · exact fun a o q => by rw [upd_ne (ne_of_none q hl)]; exact g a o q
    · rw [List.length_append, List.length_singleton]
      omega
    · rw [upd_same, List.map_append]
      rfl
    · rw [e]
      cases Us.gr Us.LL (x * Us.cl x y - y) (y * Us.cl x y) with
      | none => rfl
      | some zs => exact congrArg some (List.append_cons fs _ zs)
  · have c' : ¬ 0 < x := of_decide_eq_false (Bool.eq_false_iff.mpr c)
    rw [Us.gr_zero c'] at e
    have ef : xs = fs := by
      have z : some xs = some (fs ++ []) := hxs.symm.trans e
      rw [List.append_nil] at z
      exact Option.some.inj z
    rw [← ef] at hL
    exact ⟨_, rfl, hQ l H' hl g hL⟩
def spB_greatest_first (K : PySem.W.Frag) (NF NB : Addr) : Sp := fun vs H Q E => ∃ (p : Addr) (t b : Int), vs = [.ref p] ∧ SqT K H p [.int t, .int b] ∧ badP NF NB t b H E
theorem calE_greatest_first {NF NB : Addr} (D : Def K mg "greatest_first" s_greatest_first) (e_check_has_ways : Cal P w K mg base (CXE P w) "check_has_ways" ["fraction"] 2 (spE_has K NF NB)) (c_greatest_first : Cal P w K mg base CX0 "greatest_first" ["fraction"] 3 (sp_greatest K)) : Cal P w K mg base (CXE P w) "greatest_first" ["fraction"] 3 (fun vs H Q E => sp_greatest K vs H Q E ∨ spB_greatest_first K NF NB vs H Q E) := by
  refine c_greatest_first.toE.orE (D.calE sc_greatest_first (fun _ _ _ _ _ _ us hl => match us, hl with | [_], _ => rfl) (fun vs H Q E h => ?_) (fun f cdv A outer s H vs Q E hr h => ?_))
  · obtain ⟨p, t, b, rfl, _⟩ := h
    rfl
  obtain ⟨p, t, b, rfl, hp, hb⟩ := h
  refine ⟨_, (pss_cons (ps_expr (pe_cal e_check_has_ways hr (passE own_cx) (pa_cons (pv 0) pa_nil)))
    pss_never), ?_⟩
  exact ⟨_, rfl, p, t, b, rfl, hp, hb⟩
theorem pairwise_of_next : ∀ {xs : List Int}, (∀ (i : Nat) (x y : Int), xs[i]? = some x → xs[i + 1]? = some y → x < y) → xs.Pairwise (· < ·)
  | [], _ => .nil
  | [x], _ => by simp
  | x :: y :: r, h => by
    have ih : (y :: r).Pairwise (· < ·) := pairwise_of_next fun i a b ha hb => h (i + 1) a b (by rw [List.getElem?_cons_succ]; exact ha) (by rw [List.getElem?_cons_succ]; exact hb)
    have xy : x < y := h 0 x y rfl rfl
    refine List.pairwise_cons.mpr ⟨fun z hz => ?_, ih⟩
    rcases List.mem_cons.mp hz with rfl | hz
    · exact xy
    · exact Int.lt_trans xy ((List.pairwise_cons.mp ih).1 z hz)
theorem next_of_pairwise {xs : List Int} (h : xs.Pairwise (· < ·)) {i : Nat} {x y : Int} (hx : xs[i]? = some x) (hy : xs[i + 1]? = some y) : x < y := by
  rw [List.pairwise_iff_getElem] at h
  obtain ⟨h1, rfl⟩ := List.getElem?_eq_some_iff.mp hx
  obtain ⟨h2, rfl⟩ := List.getElem?_eq_some_iff.mp hy
  exact h i (i + 1) h1 h2 (Nat.lt_succ_self i)
def sp_rises (K : PySem.W.Frag) : Sp := fun vs H Q _ => ∃ (p : Addr) (xs : List Int), vs = [.ref p] ∧ SqL K H p (xs.map V.int) ∧ xs.length ≤ 1000000 ∧ ∀ b : Bool, (b = true ↔ xs.Pairwise (· < ·)) → Q (.bl b) H
theorem sc_rises : FnScope ["shares", "place"] ["shares"] (defScope s_rises) := ⟨rfl, rfl, rfl, by decide +kernel, rfl, by decide +kernel, by decide +kernel⟩
theorem cal_rises (D : Def K mg "rises" s_rises) (z_len : mg "len" = none) (z_range : mg "range" = none) : Cal P w K mg base CX0 "rises" ["shares"] 1 (sp_rises K) := by
  refine D.cal sc_rises (fun _ _ _ _ _ _ us hl => match us, hl with | [_], _ => rfl) (fun vs H Q E h => ?_) (fun f cdv A outer s H vs Q E hr h => ?_)
  · obtain ⟨p, xs, rfl, _⟩ := h
    rfl
  obtain ⟨p, xs, rfl, hS, hl, q⟩ := h
  refine ⟨_, (pss_cons (ps_for PassesOwn.never rfl (pi_range2 (by rfl) z_range (pa_cons pe_int (pa_cons (pe_callB call_len_seq (by rfl) z_len PySem.boot_len (pa_cons (pv 0) pa_nil)) pa_nil))) (pg_name (i := 1) sc_rises.nd rfl (Or.inl rfl))
      (pss_one (ps_if (pt_cmpR op_le (pe_ix ix_list (pv 0) (pv 1) (fun _ _ => rfl)) (pe_ix ix_list (pv 0) (pe_op op_sub (pv 1) pe_int) (fun _ _ => rfl)) (nomark _))
          (pss_one (ps_ret pe_bl))
          pss_nil)))
    (pss_one (ps_ret pe_bl))), ?_⟩
  refine ⟨_, rfl, p, _, rfl, .inl hS, 1, _, rfl, ⟨by decide, by decide, by rw [List.length_map]; omega, by rw [List.length_map]; omega⟩, for_range (fun i σ' H' => H' = H ∧ (∃ z, σ' = [some (.ref p), z]) ∧ ∀ (j : Nat) (x y : Int), j < i → xs[j]? = some x → xs[j + 1]? = some y → x < y) ⟨rfl, ⟨none, rfl⟩, fun j x y hj => absurd hj (Nat.not_lt_zero _)⟩ (fun i σ' H' hi h => ?_) (fun σ' H' h => ?_)⟩
  · obtain ⟨rfl, ⟨z, rfl⟩, hk⟩ := h
    rw [List.length_map] at hi
    have hi' : i + 1 < xs.length := by omega
    obtain ⟨x, hx1⟩ : ∃ x, xs[i]? = some x := ⟨_, List.getElem?_eq_getElem (by omega)⟩
    obtain ⟨y, hy1⟩ : ∃ y, xs[i + 1]? = some y := ⟨_, List.getElem?_eq_getElem hi'⟩
    have ax : atI (xs.map V.int) (1 + (i : Int) - 1) = some (.int x) := by
      have e : (1 + (i : Int) - 1) = (i : Int) := by omega
      rw [e, at_int (by omega) (by omega), List.getD_eq_getElem?_getD, show (i : Int).toNat = i from rfl, hx1]
      rfl
    have ay : atI (xs.map V.int) (1 + (i : Int)) = some (.int y) := by
      rw [at_int (by omega) (by omega), List.getD_eq_getElem?_getD, show (1 + (i : Int)).toNat = i + 1 by omega, hy1]
      rfl
    refine ⟨_, rfl, _, rfl, p, _, _, _, rfl, rfl, hS, ay, _, rfl, _, rfl, _, _, rfl, rfl, p, _, _, _, rfl, rfl, hS, ax, _, _, rfl, rfl, _, rfl, ?_⟩
    refine ite2 (fun c => ?_) (fun c => ?_)
    · have c' : y ≤ x := of_decide_eq_true c
      refine q false ⟨fun z => (nomatch z), fun w => ?_⟩
      have := next_of_pairwise w hx1 hy1
      omega
    · have c' : ¬ y ≤ x := of_decide_eq_false (Bool.eq_false_iff.mpr c)
      refine ⟨rfl, ⟨_, rfl⟩, fun j x' y' hj h1 h2 => ?_⟩
      rcases Nat.lt_or_ge j i with lt | ge
      · exact hk j x' y' lt h1 h2
      · obtain rfl : j = i := by omega
        cases hx1.symm.trans h1
        cases hy1.symm.trans h2
        omega
  · obtain ⟨rfl, ⟨z, rfl⟩, hk⟩ := h
    rw [List.length_map] at hk
    refine q true ⟨fun _ => pairwise_of_next fun i x y hx hy => hk i x y ?_ hx hy, fun _ => rfl⟩
    have := (List.getElem?_eq_some_iff.mp hy).1
    omega
def sp_joined (K : PySem.W.Frag) : Sp := fun vs H Q _ => ∃ (p q : Addr) (a b c d : Int), vs = [.ref p, .ref q] ∧ SqT K H p [.int a, .int b] ∧ SqT K H q [.int c, .int d] ∧
  0 < b ∧ b ≤ Us.P2 4000 ∧ 0 < d ∧ d ≤ Us.P2 4000 ∧ -Us.P2 4000 ≤ a ∧ a ≤ Us.P2 4000 ∧ -Us.P2 4000 ≤ c ∧ c ≤ Us.P2 4000 ∧ 0 ≤ a * (d / Us.G b d) + c * (b / Us.G b d) ∧
  ∀ (r : Addr) (H' : Hp), H r = none → Same H H' → H' r = some (.tup [.int (Us.joinM a b c d).1, .int (Us.joinM a b c d).2]) → Q (.ref r) H'
theorem sc_joined : FnScope ["one", "other", "shared", "top", "common"] ["one", "other"] (defScope s_joined) := ⟨rfl, rfl, rfl, by decide +kernel, rfl, by decide +kernel, by decide +kernel⟩
theorem cal_joined (D : Def K mg "joined" s_joined) (c_common_divisor : Cal P w K mg base CX0 "common_divisor" ["one", "other"] 1 sp_gcd) : Cal P w K mg base CX0 "joined" ["one", "other"] 2 (sp_joined K) := by
  refine D.cal sc_joined (fun _ _ _ _ _ _ us hl => match us, hl with | [_, _], _ => rfl) (fun vs H Q E h => ?_) (fun f cdv A outer s H vs Q E hr h => ?_)
  · obtain ⟨p, q, a, b, c, d, rfl, _⟩ := h
    rfl
  obtain ⟨p, q', a, b, c, d, rfl, hp, hq, b0, b1, d0, d1, a0, a1, c0, c1, t0, q⟩ := h
  refine ⟨_, (pss_cons (ps_set (i := 2) sc_joined.nd rfl (Or.inl rfl) (pe_cal c_common_divisor hr pass0 (pa_cons (pe_ix ix_tup (pv 0) pe_int (fun _ _ => rfl)) (pa_cons (pe_ix ix_tup (pv 1) pe_int (fun _ _ => rfl)) pa_nil))))
    (pss_cons (ps_set (i := 3) sc_joined.nd rfl (Or.inl rfl) (pe_op op_add (pe_op op_mulB (pe_ix ix_tup (pv 0) pe_int (fun _ _ => rfl)) (pe_op op_fdivB (pe_ix ix_tup (pv 1) pe_int (fun _ _ => rfl)) (pv 2))) (pe_op op_mulB (pe_ix ix_tup (pv 1) pe_int (fun _ _ => rfl)) (pe_op op_fdivB (pe_ix ix_tup (pv 0) pe_int (fun _ _ => rfl)) (pv 2)))))
    (pss_cons (ps_set (i := 4) sc_joined.nd rfl (Or.inl rfl) (pe_cal c_common_divisor hr pass0 (pa_cons (pv 3) (pa_cons (pv 2) pa_nil))))
    (pss_one (ps_ret (pe_tup (pa_cons (pe_op op_fdivB (pv 3) (pv 4)) (pa_cons (pe_op op_mulB (pe_op op_fdivB (pe_ix ix_tup (pv 0) pe_int (fun _ _ => rfl)) (pv 2)) (pe_op op_fdivB (pe_ix ix_tup (pv 1) pe_int (fun _ _ => rfl)) (pv 4))) pa_nil)))))))), ?_⟩
  have gp := Us.G_pos (a := b) d0
  have gl := Us.G_le (a := b) d0
  have bq0 : 0 ≤ b / Us.G b d := Int.ediv_nonneg (by omega) (by omega)
  have bq1 : b / Us.G b d ≤ b := Int.ediv_le_self _ (by omega)
  have dq0 : 0 ≤ d / Us.G b d := Int.ediv_nonneg (by omega) (by omega)
  have dq1 : d / Us.G b d ≤ d := Int.ediv_le_self _ (by omega)
  have m1 : Us.P2 4000 ≤ Us.P2 9000 := Us.P2_mono (by decide)
  have m2 : Us.P2 4000 ≤ Us.P2 8999 := Us.P2_mono (by decide)
  have kp := Us.G_pos (a := a * (d / Us.G b d) + c * (b / Us.G b d)) gp
  have kl := Us.G_le (a := a * (d / Us.G b d) + c * (b / Us.G b d)) gp
  have e1 : ∀ {i : Int}, CDivB i (Us.G b d) := fun {i} => ⟨gp, by omega⟩
  have e2 : ∀ {i : Int}, CDivB i (Us.G (a * (d / Us.G b d) + c * (b / Us.G b d)) (Us.G b d)) := fun {i} => ⟨kp, by omega⟩
  refine ⟨_, rfl, p, _, _, _, rfl, rfl, hp, at1, _, rfl, q', _, _, _, rfl, rfl, hq, at1, b, d, rfl, by omega, by omega, ?_⟩
  refine ⟨_, rfl, p, _, _, _, rfl, rfl, hp, at0, _, rfl, q', _, _, _, rfl, rfl, hq, at1, _, rfl, _, _, rfl, rfl, e1, _, _, rfl, rfl, ⟨⟨by omega, by omega⟩, ⟨by omega, by omega⟩⟩, ?_⟩
  refine ⟨_, rfl, q', _, _, _, rfl, rfl, hq, at0, _, rfl, p, _, _, _, rfl, rfl, hp, at1, _, rfl, _, _, rfl, rfl, e1, _, _, rfl, rfl, ⟨⟨by omega, by omega⟩, ⟨by omega, by omega⟩⟩, _, _, rfl, rfl, ?_⟩
  refine ⟨_, rfl, _, rfl, _, _, rfl, t0, by omega, ?_⟩
  refine ⟨_, rfl, _, rfl, _, _, rfl, rfl, e2, _, rfl, p, _, _, _, rfl, rfl, hp, at1, _, rfl, _, _, rfl, rfl, e1, _, rfl, q', _, _, _, rfl, rfl, hq, at1, _, rfl, _, _, rfl, rfl, e2, _, _, rfl, rfl, ?_, (by decide : 2 ≤ sizeLine), fun r hr' => ?_⟩
  · have dk0 : 0 ≤ d / Us.G (a * (d / Us.G b d) + c * (b / Us.G b d)) (Us.G b d) := Int.ediv_nonneg (by omega) (by omega)
    have dk1 : d / Us.G (a * (d / Us.G b d) + c * (b / Us.G b d)) (Us.G b d) ≤ d := Int.ediv_le_self _ (by omega)
    exact ⟨⟨by omega, by omega⟩, ⟨by omega, by omega⟩⟩
  · exact q r _ hr' (Same.new hr' _) upd_same
def sp_sum_of (K : PySem.W.Frag) : Sp := fun vs H Q _ => ∃ (p : Addr) (xs : List Int) (m : Nat), vs = [.ref p] ∧ SqL K H p (xs.map V.int) ∧ (∀ x ∈ xs, 0 < x ∧ x ≤ Us.P2 m) ∧ (m + 1) * xs.length ≤ 4000 ∧ m ≤ 4000 ∧
  ∀ (r : Addr) (H' : Hp), H r = none → Same H H' → H' r = some (.tup [.int (Us.sumM xs).1, .int (Us.sumM xs).2]) → Q (.ref r) H'
theorem sc_sum_of : FnScope ["shares", "total", "share"] ["shares"] (defScope s_sum_of) := ⟨rfl, rfl, rfl, by decide +kernel, rfl, by decide +kernel, by decide +kernel⟩
theorem cal_sum_of (D : Def K mg "sum_of" s_sum_of) (c_joined : Cal P w K mg base CX0 "joined" ["one", "other"] 2 (sp_joined K)) : Cal P w K mg base CX0 "sum_of" ["shares"] 3 (sp_sum_of K) := by
  refine D.cal sc_sum_of (fun _ _ _ _ _ _ us hl => match us, hl with | [_], _ => rfl) (fun vs H Q E h => ?_) (fun f cdv A outer s H vs Q E hr h => ?_)
  · obtain ⟨p, xs, m, rfl, _⟩ := h
    rfl
  obtain ⟨p, xs, m, rfl, hS, hx, hm, hm', q⟩ := h
  refine ⟨_, (pss_cons (ps_set (i := 1) sc_sum_of.nd rfl (Or.inl rfl) (pe_tup (pa_cons pe_int (pa_cons pe_int pa_nil))))
    (pss_cons (ps_for PassesOwn.never rfl (pi_list (pv 0)) (pg_name (i := 2) sc_sum_of.nd rfl (Or.inl rfl))
      (pss_one (ps_set (i := 1) sc_sum_of.nd rfl (Or.inl rfl) (pe_cal c_joined hr pass0 (pa_cons (pv 1) (pa_cons (pe_tup (pa_cons pe_int (pa_cons (pv 2) pa_nil))) pa_nil))))))
    (pss_one (ps_ret (pv 1))))), ?_⟩
  refine ⟨(by decide : 2 ≤ sizeLine), fun p0 hp0 => ?_⟩
  have g0 : Same H (upd H p0 (.tup [.int 0, .int 1])) := Same.new hp0 _
  refine ⟨_, rfl, p, rfl, ⟨_, g0.seq hS⟩, for_list (xs := xs.map V.int) (fun i σ' H' => Same H H' ∧ ∃ r sh, σ' = [some (.ref p), some (.ref r), sh] ∧ H r = none ∧ H' r = some (.tup [.int (Us.sumM (xs.take i)).1, .int (Us.sumM (xs.take i)).2]))
    ⟨g0, p0, none, rfl, hp0, by rw [upd_same, show Us.sumM (xs.take 0) = (0, 1) from Us.low_nil]⟩ (fun i σ' H' _ h => h.1.seq hS) (fun i x σ' H' hi h => ?_) (fun σ' H' h => ?_)⟩
  · obtain ⟨g, r, sh, rfl, hr0, hr1⟩ := h
    obtain ⟨z, hz, rfl⟩ := map_get hi
    obtain ⟨z0, z1⟩ := hx z (List.mem_of_getElem? hz)
    have hil : i < xs.length := (List.getElem?_eq_some_iff.mp hz).1
    have tk : xs.take (i + 1) = xs.take i ++ [z] := by rw [List.take_add_one, hz]; rfl
    have gd := Us.tb_good (m := m) (xs := xs.take i) (fun y hy => hx y (List.mem_of_mem_take hy))
    have il : (m + 1) * (xs.take i).length ≤ 4000 := Nat.le_trans (Nat.mul_le_mul_left _ (by rw [List.length_take]; omega)) hm
    have mono := Us.P2_mono il
    have mono2 : Us.P2 m ≤ Us.P2 4000 := Us.P2_mono hm'
    obtain ⟨t0, t1, b0, b1⟩ := gd
    have l0 := Us.low_fst_nonneg (t := (Us.tb (xs.take i)).1) (b := (Us.tb (xs.take i)).2) t0
    have l1 := Us.low_fst_le (t := (Us.tb (xs.take i)).1) t0 b0
    have l2 := Us.low_snd_pos (t := (Us.tb (xs.take i)).1) b0
    have l3 := Us.low_snd_le (t := (Us.tb (xs.take i)).1) b0
    have pp := Us.P2_pos 4000
    have st : Us.joinM (Us.sumM (xs.take i)).1 (Us.sumM (xs.take i)).2 1 z = Us.sumM (xs.take (i + 1)) := by
      rw [tk]
      unfold Us.sumM
      rw [Us.tb_snoc, Us.join_step b0 z0]
      rfl
    refine ⟨_, rfl, _, rfl, (by decide : 2 ≤ sizeLine), fun p2 hp2 => ?_⟩
    have g2 : Same H' (upd H' p2 (.tup [.int 1, .int z])) := Same.new hp2 _
    refine ⟨r, p2, _, _, _, _, rfl, SqT.of (g2 _ _ hr1), SqT.of upd_same, l2, by unfold Us.sumM; omega, z0, by omega, by unfold Us.sumM; omega, by unfold Us.sumM; omega, by omega, by have := Us.P2_one 4000; omega, ?_, fun r2 H2 hr2 g3 e3 => ?_⟩
    · have a1 : 0 ≤ z / Us.G (Us.sumM (xs.take i)).2 z := Int.ediv_nonneg (by omega) (Us.G_nonneg _ _)
      have a2 : 0 ≤ (Us.sumM (xs.take i)).2 / Us.G (Us.sumM (xs.take i)).2 z := Int.ediv_nonneg (by unfold Us.sumM; omega) (Us.G_nonneg _ _)
      have a3 : 0 ≤ (Us.sumM (xs.take i)).1 * (z / Us.G (Us.sumM (xs.take i)).2 z) := Int.mul_nonneg l0 a1
      omega
    · refine ⟨g.trans (g2.trans g3), r2, _, rfl, (g.trans g2).free hr2, ?_⟩
      rw [st] at e3
      exact e3
  · obtain ⟨g, r, sh, rfl, hr0, hr1⟩ := h
    refine ⟨_, rfl, q r H' hr0 g ?_⟩
    rw [List.length_map, List.take_length] at hr1
    exact hr1
def sp_is_way (K : PySem.W.Frag) : Sp := fun vs H Q _ => ∃ (p q : Addr) (t b : Int) (xs : List Int) (m : Nat), vs = [.ref p, .ref q] ∧ SqT K H p [.int t, .int b] ∧ 0 ≤ t ∧ 1 ≤ b ∧ b ≤ Us.P2 8999 ∧ SqL K H q (xs.map V.int) ∧ (∀ x ∈ xs, 0 < x ∧ x ≤ Us.P2 m) ∧ (m + 1) * xs.length ≤ 4000 ∧ m ≤ 4000 ∧
  ∀ (c : Bool) (H' : Hp), Same H H' → (c = true ↔ (xs.Pairwise (· < ·) ∧ Us.sumM xs = Us.low t b)) → Q (.bl c) H'
theorem sc_is_way : FnScope ["fraction", "shares", "aim"] ["fraction", "shares"] (defScope s_is_way) := ⟨rfl, rfl, rfl, by decide +kernel, rfl, by decide +kernel, by decide +kernel⟩
theorem cal_is_way (D : Def K mg "is_way" s_is_way) (c_lowest : Cal P w K mg base CX0 "lowest" ["fraction"] 2 (sp_low0 K)) (c_rises : Cal P w K mg base CX0 "rises" ["shares"] 1 (sp_rises K)) (c_sum_of : Cal P w K mg base CX0 "sum_of" ["shares"] 3 (sp_sum_of K)) : Cal P w K mg base CX0 "is_way" ["fraction", "shares"] 4 (sp_is_way K) := by
  refine D.cal sc_is_way (fun _ _ _ _ _ _ us hl => match us, hl with | [_, _], _ => rfl) (fun vs H Q E h => ?_) (fun f cdv A outer s H vs Q E hr h => ?_)
  · obtain ⟨p, q, t, b, xs, m, rfl, _⟩ := h
    rfl
  obtain ⟨p, q', t, b, xs, m, rfl, hp, t0, b0, b1, hS, hx, hm, hm', q⟩ := h
  have hu := hr.units
  refine ⟨_, (pss_cons (ps_set (i := 2) sc_is_way.nd rfl (Or.inl rfl) (pe_cal c_lowest hr pass0 (pa_cons (pv 0) pa_nil)))
    (pss_one (ps_ret (pe_and (pe_cal c_rises hr pass0 (pa_cons (pv 1) pa_nil)) (pe_one (pe_cmpR (op_eqD hu) (pe_cal c_sum_of hr pass0 (pa_cons (pv 1) pa_nil)) (pv 2) (nomark _))))))), ?_⟩
  refine ⟨_, rfl, p, t, b, rfl, hp, t0, b0, b1, fun r1 H1 hr1 g1 e1 => ?_⟩
  have ln : xs.length ≤ 1000000 := by
    have : 1 * xs.length ≤ (m + 1) * xs.length := Nat.mul_le_mul_right _ (by omega)
    omega
  refine ⟨_, rfl, q', xs, rfl, g1.seq hS, ln, fun c hc => ⟨c, rfl, ?_⟩⟩
  refine ite2 (fun z => ?_) (fun z => ?_)
  · refine ⟨_, rfl, q', xs, m, rfl, g1.seq hS, hx, hm, hm', fun r2 H2 hr2 g2 e2 => ?_⟩
    refine ⟨_, rfl, _, _, .tup (SqT.of e2) (dvs_ints [(Us.sumM xs).1, (Us.sumM xs).2]), .tup (SqT.of (g2 _ _ e1)) (dvs_ints [(Us.low t b).1, (Us.low t b).2]), shaped_tup _, shaped_tup _, ?_⟩
    rw [eqv_tup]
    refine q _ _ (g1.trans g2) ⟨fun w => ⟨hc.1 z, ?_⟩, fun w => decide_eq_true (by rw [w.2])⟩
    have := of_decide_eq_true w
    injection this with a1 a2
    injection a2 with a2 _
    exact Prod.ext a1 a2
  · exact q false H1 g1 ⟨fun w => (nomatch w), fun w => absurd (hc.2 w.1) z⟩
def spB_is (K : PySem.W.Frag) (NF : Addr) : Sp := fun vs H Q E => ∃ (p q : Addr) (t b : Int), vs = [.ref p, .ref q] ∧ SqT K H p [.int t, .int b] ∧ ¬ (0 ≤ t ∧ 1 ≤ b) ∧ E (.ref NF) none H
theorem calE_is_way {NF : Addr} (D : Def K mg "is_way" s_is_way) (e_lowest : Cal P w K mg base (CXE P w) "lowest" ["fraction"] 2 (spE_low K NF)) (c_is_way : Cal P w K mg base CX0 "is_way" ["fraction", "shares"] 4 (sp_is_way K)) : Cal P w K mg base (CXE P w) "is_way" ["fraction", "shares"] 4 (fun vs H Q E => sp_is_way K vs H Q E ∨ spB_is K NF vs H Q E) := by
  refine c_is_way.toE.orE (D.calE sc_is_way (fun _ _ _ _ _ _ us hl => match us, hl with | [_, _], _ => rfl) (fun vs H Q E h => ?_) (fun f cdv A outer s H vs Q E hr h => ?_))
  · obtain ⟨p, q, t, b, rfl, _⟩ := h
    rfl
  obtain ⟨p, q, t, b, rfl, hp, h1, h2⟩ := h
  refine ⟨_, (pss_cons (ps_set (i := 2) sc_is_way.nd rfl (Or.inl rfl) (pe_cal e_lowest hr (passE own_cx) (pa_cons (pv 0) pa_nil)))
    pss_never), ?_⟩
  exact ⟨_, rfl, p, t, b, rfl, hp, h1, h2⟩
def Fine (call t b : Int) : Prop := (0 ≤ t ∧ 1 ≤ b) ∧ (6 ≤ call ∨ (0 < t ∧ t < b))
def spE_call3 (K : PySem.W.Frag) (NF NB : Addr) : Sp := fun vs H Q E => ∃ (p : Addr) (call t b : Int), vs = [.int call, .ref p] ∧ H p = some (.tup [.int t, .int b]) ∧ 0 ≤ call ∧ call ≤ 7 ∧ t ≤ 40 ∧ b ≤ 40 ∧ (4 ≤ call → call ≤ 5 → 0 < t → t < b → t ≤ 5) ∧
  (¬ (0 ≤ t ∧ 1 ≤ b) → ∀ H', Same H H' → E (.ref NF) none H') ∧ ((0 ≤ t ∧ 1 ≤ b) → call ≤ 5 → (t = 0 ∨ b ≤ t) → ∀ H', Same H H' → E (.ref NB) none H') ∧ (Fine call t b → ∀ H', Same H H' → Q .non H')
def midL (p : Addr) (call t b : Int) (H : Hp) (i : Int) : TS := fun D σ H' => (∀ σ' H'', Same H H'' → Fine call t b → D.nx σ' H'') ∧ σ = [some (.int call), some (.ref p)] ∧ ((call < i ∧ Fine call t b ∧ Same H H') ∨ (i ≤ call ∧ H' = H))
theorem sc_law_call : FnScope ["call", "pair"] ["call", "pair"] (defScope s_law_call) := ⟨rfl, rfl, rfl, by decide +kernel, rfl, by decide +kernel, by decide +kernel⟩
set_option maxHeartbeats 4000000 in
theorem cal_law_call {NF NB : Addr} (D : Def K mg "_law_call" s_law_call) (e_all_ways : Cal P w K mg base (CXE P w) "all_ways" ["fraction", "most", "greatest"] 6 (fun vs H Q E => sp_all_ways K vs H Q E ∨ spB_all K NF NB vs H Q E)) (e_fewest : Cal P w K mg base (CXE P w) "fewest" ["fraction", "greatest"] 7 (fun vs H Q E => sp_fewest K vs H Q E ∨ spB_few K NF NB vs H Q E)) (e_goes_by : Cal P w K mg base (CXE P w) "goes_by" ["fraction", "most"] 3 (fun vs H Q E => sp_goes K vs H Q E ∨ spB_goes K NF NB vs H Q E))
    (e_rising_factors : Cal P w K mg base (CXE P w) "rising_factors" ["fraction"] 3 (fun vs H Q E => sp_rising_factors K vs H Q E ∨ spB_rising_factors K NF NB vs H Q E)) (e_rising : Cal P w K mg base (CXE P w) "rising" ["fraction"] 4 (fun vs H Q E => sp_rising K vs H Q E ∨ spB_rising K NF NB vs H Q E)) (e_greatest_first : Cal P w K mg base (CXE P w) "greatest_first" ["fraction"] 3 (fun vs H Q E => sp_greatest K vs H Q E ∨ spB_greatest_first K NF NB vs H Q E)) (e_is_way : Cal P w K mg base (CXE P w) "is_way" ["fraction", "shares"] 4 (fun vs H Q E => sp_is_way K vs H Q E ∨ spB_is K NF vs H Q E)) :
    Cal P w K mg base (CXE P w) "_law_call" ["call", "pair"] 8 (spE_call3 K NF NB) := by
  refine D.calE sc_law_call (fun _ _ _ _ _ _ us hl => match us, hl with | [_, _], _ => rfl) (fun vs H Q E h => ?_) (fun f cdv A outer s H vs Q E hr h => ?_)
  · obtain ⟨p, call, t, b, rfl, _⟩ := h
    rfl
  obtain ⟨p, call, t, b, rfl, hp, k0, k7, t1, b1, k5, hNF, hNB, hQ⟩ := h
  have p20 : (40 : Int) ≤ Us.P2 20 := by unfold Us.P2; decide
  have p89 : (40 : Int) ≤ Us.P2 8999 := Us.P2_lit (by decide) (by decide)
  have bad : call ≤ 5 → ¬ (0 < t ∧ t < b) → ∀ H', Same H H' → badP NF NB t b H' E := fun hc h H' g => by
    by_cases c : 0 ≤ t ∧ 1 ≤ b
    · exact .inr ⟨c, by omega, hNB c hc (by omega) H' g⟩
    · exact .inl ⟨c, hNF c H' g⟩
  have fine5 : 0 < t ∧ t < b → Fine call t b := fun h => ⟨by omega, .inr h⟩
  refine ⟨_, (pss_cons (ps_if (pt_cmpR op_eq (pv 0) pe_int (nomark _))
      (pss_one (ps_expr (pe_cal e_all_ways hr (passE own_cx) (pa_cons (pv 1) (pa_cons pe_int (pa_cons pe_int pa_nil))))))
      pss_nil)
    (PSs.imp (t' := (midL p call t b H 1))
    (pss_cons (ps_if (pt_cmpR op_eq (pv 0) pe_int (nomark _))
      (pss_one (ps_expr (pe_cal e_fewest hr (passE own_cx) (pa_cons (pv 1) (pa_cons pe_int pa_nil)))))
      pss_nil)
    (PSs.imp (t' := (midL p call t b H 2))
    (pss_cons (ps_if (pt_cmpR op_eq (pv 0) pe_int (nomark _))
      (pss_one (ps_expr (pe_cal e_goes_by hr (passE own_cx) (pa_cons (pv 1) (pa_cons pe_int pa_nil)))))
      pss_nil)
    (PSs.imp (t' := (midL p call t b H 3))
    (pss_cons (ps_if (pt_cmpR op_eq (pv 0) pe_int (nomark _))
      (pss_one (ps_expr (pe_cal e_rising_factors hr (passE own_cx) (pa_cons (pv 1) pa_nil))))
      pss_nil)
    (PSs.imp (t' := (midL p call t b H 4))
    (pss_cons (ps_if (pt_cmpR op_eq (pv 0) pe_int (nomark _))
      (pss_one (ps_expr (pe_cal e_rising hr (passE own_cx) (pa_cons (pv 1) pa_nil))))
      pss_nil)
    (PSs.imp (t' := (midL p call t b H 5))
    (pss_cons (ps_if (pt_cmpR op_eq (pv 0) pe_int (nomark _))
      (pss_one (ps_expr (pe_cal e_greatest_first hr (passE own_cx) (pa_cons (pv 1) pa_nil))))
      pss_nil)
    (PSs.imp (t' := (midL p call t b H 6))
    (pss_cons (ps_if (pt_cmpR op_eq (pv 0) pe_int (nomark _))
      (pss_one (ps_expr (pe_cal e_is_way hr (passE own_cx) (pa_cons (pv 1) (pa_cons (pe_lst (pa_cons pe_int (pa_cons pe_int pa_nil))) pa_nil)))))
      pss_nil)
    (PSs.imp (t' := (midL p call t b H 7))
    (pss_one (ps_if (pt_cmpR op_eq (pv 0) pe_int (nomark _))
      (pss_one (ps_expr (pe_cal e_is_way hr (passE own_cx) (pa_cons (pv 1) (pa_cons (pe_lst (pa_cons pe_int (pa_cons pe_int pa_nil))) pa_nil)))))
      pss_nil)) ?m7)) ?m6)) ?m5)) ?m4)) ?m3)) ?m2)) ?m1)), ?_⟩
  case m7 =>
    rintro D σ H' ⟨nx, rfl, st⟩
    refine ⟨_, rfl, rfl, _, rfl, ?_⟩
    rcases st with ⟨lt, fine, g⟩ | ⟨ge, rfl⟩
    · refine iteDF (fun z => by have := V.int.inj z; omega) ?_
      exact nx _ _ g fine
    · refine ite2 (fun z => ?_) (fun z => ?_)
      · have z' : call = 7 := V.int.inj (of_decide_eq_true z)
        refine ⟨_, rfl, (by decide : 2 ≤ sizeLine), fun l hl => ?_⟩
        have g := Same.new hl (.lst (([3, 2] : List Int).map V.int))
        by_cases h : 0 ≤ t ∧ 1 ≤ b
        · refine .inl ⟨p, l, t, b, [3, 2], 6, rfl, SqT.of (g _ _ hp), h.1, h.2, by omega, SqL.of upd_same, fun x hx => ?_, by decide, by decide, fun c H1 g1 _ => nx _ _ (g.trans g1) ⟨h, .inl (by omega)⟩⟩
          have p6 : (3 : Int) ≤ Us.P2 6 := by unfold Us.P2; decide
          simp only [List.mem_cons, List.not_mem_nil, or_false] at hx
          omega
        · exact .inr ⟨p, l, t, b, rfl, SqT.of (g _ _ hp), h, hNF h _ g⟩
      · have z' : call ≠ 7 := fun e => z (decide_eq_true (by rw [e]))
        exact absurd (by omega) z'
  case m6 =>
    rintro D σ H' ⟨nx, rfl, st⟩
    refine ⟨_, rfl, rfl, _, rfl, ?_⟩
    rcases st with ⟨lt, fine, g⟩ | ⟨ge, rfl⟩
    · refine iteDF (fun z => by have := V.int.inj z; omega) ?_
      exact ⟨nx, rfl, .inl ⟨by omega, fine, g⟩⟩
    · refine ite2 (fun z => ?_) (fun z => ?_)
      · have z' : call = 6 := V.int.inj (of_decide_eq_true z)
        refine ⟨_, rfl, (by decide : 2 ≤ sizeLine), fun l hl => ?_⟩
        have g := Same.new hl (.lst (([2, 3] : List Int).map V.int))
        by_cases h : 0 ≤ t ∧ 1 ≤ b
        · refine .inl ⟨p, l, t, b, [2, 3], 6, rfl, SqT.of (g _ _ hp), h.1, h.2, by omega, SqL.of upd_same, fun x hx => ?_, by decide, by decide, fun c H1 g1 _ => ⟨nx, rfl, .inl ⟨by omega, ⟨h, .inl (by omega)⟩, g.trans g1⟩⟩⟩
          have p6 : (3 : Int) ≤ Us.P2 6 := by unfold Us.P2; decide
          simp only [List.mem_cons, List.not_mem_nil, or_false] at hx
          omega
        · exact .inr ⟨p, l, t, b, rfl, SqT.of (g _ _ hp), h, hNF h _ g⟩
      · have z' : call ≠ 6 := fun e => z (decide_eq_true (by rw [e]))
        exact ⟨nx, rfl, .inr ⟨by omega, rfl⟩⟩
  case m5 =>
    rintro D σ H' ⟨nx, rfl, st⟩
    refine ⟨_, rfl, rfl, _, rfl, ?_⟩
    rcases st with ⟨lt, fine, g⟩ | ⟨ge, rfl⟩
    · refine iteDF (fun z => by have := V.int.inj z; omega) ?_
      exact ⟨nx, rfl, .inl ⟨by omega, fine, g⟩⟩
    · refine ite2 (fun z => ?_) (fun z => ?_)
      · have z' : call = 5 := V.int.inj (of_decide_eq_true z)
        refine ⟨_, rfl, ?_⟩
        by_cases h : 0 < t ∧ t < b
        · obtain ⟨xs, hx⟩ := Us.gr_five h.1 h.2 b1 (k5 (by omega) (by omega) h.1 h.2)
          exact .inl ⟨p, t, b, xs, rfl, SqT.of hp, h.1, h.2, by omega, hx, fun r H1 _ g1 _ => ⟨nx, rfl, .inl ⟨by omega, fine5 h, g1⟩⟩⟩
        · exact .inr ⟨p, t, b, rfl, SqT.of hp, bad (by omega) h _ (Same.refl _)⟩
      · have z' : call ≠ 5 := fun e => z (decide_eq_true (by rw [e]))
        exact ⟨nx, rfl, .inr ⟨by omega, rfl⟩⟩
  case m4 =>
    rintro D σ H' ⟨nx, rfl, st⟩
    refine ⟨_, rfl, rfl, _, rfl, ?_⟩
    rcases st with ⟨lt, fine, g⟩ | ⟨ge, rfl⟩
    · refine iteDF (fun z => by have := V.int.inj z; omega) ?_
      exact ⟨nx, rfl, .inl ⟨by omega, fine, g⟩⟩
    · refine ite2 (fun z => ?_) (fun z => ?_)
      · have z' : call = 4 := V.int.inj (of_decide_eq_true z)
        refine ⟨_, rfl, ?_⟩
        by_cases h : 0 < t ∧ t < b
        · exact .inl ⟨p, t, b, rfl, SqT.of hp, h.1, h.2, by omega, by have := k5 (by omega) (by omega) h.1 h.2; omega, fun r H1 _ g1 _ => ⟨nx, rfl, .inl ⟨by omega, fine5 h, g1⟩⟩⟩
        · exact .inr ⟨p, t, b, rfl, SqT.of hp, bad (by omega) h⟩
      · have z' : call ≠ 4 := fun e => z (decide_eq_true (by rw [e]))
        exact ⟨nx, rfl, .inr ⟨by omega, rfl⟩⟩
  case m3 =>
    rintro D σ H' ⟨nx, rfl, st⟩
    refine ⟨_, rfl, rfl, _, rfl, ?_⟩
    rcases st with ⟨lt, fine, g⟩ | ⟨ge, rfl⟩
    · refine iteDF (fun z => by have := V.int.inj z; omega) ?_
      exact ⟨nx, rfl, .inl ⟨by omega, fine, g⟩⟩
    · refine ite2 (fun z => ?_) (fun z => ?_)
      · have z' : call = 3 := V.int.inj (of_decide_eq_true z)
        refine ⟨_, rfl, ?_⟩
        by_cases h : 0 < t ∧ t < b
        · exact .inl ⟨p, t, b, rfl, SqT.of hp, h.1, h.2, by omega, fun r H1 _ g1 _ => ⟨nx, rfl, .inl ⟨by omega, fine5 h, g1⟩⟩⟩
        · exact .inr ⟨p, t, b, rfl, SqT.of hp, bad (by omega) h _ (Same.refl _)⟩
      · have z' : call ≠ 3 := fun e => z (decide_eq_true (by rw [e]))
        exact ⟨nx, rfl, .inr ⟨by omega, rfl⟩⟩
  case m2 =>
    rintro D σ H' ⟨nx, rfl, st⟩
    refine ⟨_, rfl, rfl, _, rfl, ?_⟩
    rcases st with ⟨lt, fine, g⟩ | ⟨ge, rfl⟩
    · refine iteDF (fun z => by have := V.int.inj z; omega) ?_
      exact ⟨nx, rfl, .inl ⟨by omega, fine, g⟩⟩
    · refine ite2 (fun z => ?_) (fun z => ?_)
      · have z' : call = 2 := V.int.inj (of_decide_eq_true z)
        refine ⟨_, rfl, ?_⟩
        by_cases h : 0 < t ∧ t < b
        · exact .inl ⟨p, t, b, 1, rfl, SqT.of hp, h.1, h.2, by omega, by decide, by decide, fun H1 g1 _ => ⟨nx, rfl, .inl ⟨by omega, fine5 h, g1⟩⟩, fun m r l H1 _ _ _ _ _ _ _ _ g1 _ _ => ⟨nx, rfl, .inl ⟨by omega, fine5 h, g1⟩⟩⟩
        · exact .inr ⟨p, t, b, 1, rfl, SqT.of hp, bad (by omega) h _ (Same.refl _)⟩
      · have z' : call ≠ 2 := fun e => z (decide_eq_true (by rw [e]))
        exact ⟨nx, rfl, .inr ⟨by omega, rfl⟩⟩
  case m1 =>
    rintro D σ H' ⟨nx, rfl, st⟩
    refine ⟨_, rfl, rfl, _, rfl, ?_⟩
    rcases st with ⟨lt, fine, g⟩ | ⟨ge, rfl⟩
    · refine iteDF (fun z => by have := V.int.inj z; omega) ?_
      exact ⟨nx, rfl, .inl ⟨by omega, fine, g⟩⟩
    · refine ite2 (fun z => ?_) (fun z => ?_)
      · have z' : call = 1 := V.int.inj (of_decide_eq_true z)
        refine ⟨_, rfl, ?_⟩
        by_cases h : 0 < t ∧ t < b
        · exact .inl ⟨p, t, b, 6, rfl, SqT.of hp, h.1, h.2, by omega, by decide, by decide, fun H1 g1 _ => ⟨nx, rfl, .inl ⟨by omega, fine5 h, g1⟩⟩, fun r H1 row rows _ _ g1 _ => ⟨nx, rfl, .inl ⟨by omega, fine5 h, g1⟩⟩⟩
        · exact .inr ⟨p, t, b, 6, rfl, SqT.of hp, bad (by omega) h _ (Same.refl _)⟩
      · have z' : call ≠ 1 := fun e => z (decide_eq_true (by rw [e]))
        exact ⟨nx, rfl, .inr ⟨by omega, rfl⟩⟩
  have nx : ∀ H'', Same H H'' → Fine call t b → Q .non H'' := fun H'' g f => hQ f H'' g
  refine ⟨_, rfl, rfl, _, rfl, ?_⟩
  refine ite2 (fun z => ?_) (fun z => ?_)
  · have z' : call = 0 := V.int.inj (of_decide_eq_true z)
    refine ⟨_, rfl, ?_⟩
    by_cases h : 0 < t ∧ t < b
    · exact .inl ⟨p, t, b, 2, 8, rfl, SqT.of hp, h.1, h.2, by omega, by decide, by decide, by decide, by decide, fun r as H1 g1 nd ra => ⟨fun _ => nx, rfl, .inl ⟨by omega, fine5 h, g1⟩⟩⟩
    · exact .inr ⟨p, t, b, 2, 8, rfl, SqT.of hp, bad (by omega) h _ (Same.refl _)⟩
  · have z' : call ≠ 0 := fun e => z (decide_eq_true (by rw [e]))
    exact ⟨fun _ => nx, rfl, .inr ⟨by omega, rfl⟩⟩
def sp_kind (K : PySem.W.Frag) (S C1 C2 C3 C4 C5 : Addr) : Sp := fun vs H Q _ => ∃ (x R : Addr) (b1 b2 b3 b4 b5 : Bool), vs = [.ref x] ∧ H x = some (ExcO x R) ∧ Raised K S C1 C2 C3 C4 C5 R b1 b2 b3 b4 b5 ∧
  ∀ (r : Addr) (H' : Hp), H r = none → Same H H' → H' r = some (.lst ([b1, b2, b3, b4, b5, true].map V.bl)) → Q (.ref r) H'
theorem sc_law_kind : FnScope ["e", "kinds"] ["e"] (defScope s_law_kind) := ⟨rfl, rfl, rfl, by decide +kernel, rfl, by decide +kernel, by decide +kernel⟩
theorem cal_law_kind {S C1 C2 C3 C4 C5 : Addr} (D : Def K mg "_law_kind" s_law_kind) (m_ShareError : mg "ShareError" = some (.ref S)) (m_NoFraction : mg "NoFraction" = some (.ref C1)) (m_NotBelow : mg "NotBelow" = some (.ref C2)) (m_TooGreat : mg "TooGreat" = some (.ref C3)) (m_BadText : mg "BadText" = some (.ref C4)) (m_NotRising : mg "NotRising" = some (.ref C5))
    (z_isinstance : mg "isinstance" = none) (z_ValueError : mg "ValueError" = none) : CalN P w K mg base "_law_kind" ["e"] 1 (sp_kind K S C1 C2 C3 C4 C5) := by
  refine D.calN sc_law_kind (fun _ _ _ _ _ _ us hl => match us, hl with | [_], _ => rfl) (fun vs H Q E h => ?_) (fun f cdv A outer s H vs Q hr h => ?_)
  · obtain ⟨x, R, b1, b2, b3, b4, b5, rfl, _⟩ := h
    rfl
  obtain ⟨x, R, b1, b2, b3, b4, b5, rfl, hx, Rd, q⟩ := h
  refine ⟨_, (pss_cons (ps_set (i := 1) sc_law_kind.nd rfl (Or.inl rfl) (pe_lst (pa_cons (pe_callB call_isiE (by rfl) z_isinstance PyProof.Rows.boot_isinstance (pa_cons (pv 0) (pa_cons (pe_cls m_NoFraction) pa_nil))) (pa_cons (pe_callB call_isiE (by rfl) z_isinstance PyProof.Rows.boot_isinstance (pa_cons (pv 0) (pa_cons (pe_cls m_NotBelow) pa_nil))) (pa_cons (pe_callB call_isiE (by rfl) z_isinstance PyProof.Rows.boot_isinstance (pa_cons (pv 0) (pa_cons (pe_cls m_TooGreat) pa_nil))) (pa_cons (pe_callB call_isiE (by rfl) z_isinstance PyProof.Rows.boot_isinstance (pa_cons (pv 0) (pa_cons (pe_cls m_BadText) pa_nil))) pa_nil))))))
    (pss_one (ps_ret (pe_op op_cat (pv 1) (pe_lst (pa_cons (pe_callB call_isiE (by rfl) z_isinstance PyProof.Rows.boot_isinstance (pa_cons (pv 0) (pa_cons (pe_cls m_NotRising) pa_nil))) (pa_cons (pe_callB call_isiE (by rfl) z_isinstance PyProof.Rows.boot_isinstance (pa_cons (pv 0) (pa_cons (pe_ty z_ValueError boot_ValueError) pa_nil))) pa_nil))))))), ?_⟩
  refine ⟨_, rfl, x, R, _, _, _, rfl, rfl, hx, Rd.f, Rd.k1, _, rfl, x, R, _, _, _, rfl, rfl, hx, Rd.f, Rd.k2, _, rfl, x, R, _, _, _, rfl, rfl, hx, Rd.f, Rd.k3, _, rfl, x, R, _, _, _, rfl, rfl, hx, Rd.f, Rd.k4, (by decide : 4 ≤ sizeLine), fun l hl => ?_⟩
  have g1 := Same.new hl (.lst [.bl b1, .bl b2, .bl b3, .bl b4])
  have hx1 := g1 _ _ hx
  refine ⟨_, rfl, _, rfl, x, R, _, _, _, rfl, rfl, hx1, Rd.f, Rd.k5, _, rfl, x, R, _, _, _, rfl, rfl, hx1, Rd.f, Rd.k6, (by decide : 2 ≤ sizeLine), fun l2 hl2 => ?_⟩
  have g2 := Same.new hl2 (.lst [.bl b5, .bl true])
  refine ⟨l, l2, _, _, rfl, rfl, g2 _ _ upd_same, upd_same, (by decide : 6 ≤ sizeLine), fun r hr' => ?_⟩
  exact q r _ ((g1.trans g2).free hr') (g1.trans (g2.trans (Same.new hr' _))) upd_same
def KindsAre (call t b : Int) (bs : List Bool) : Prop := (¬ (0 ≤ t ∧ 1 ≤ b) ∧ bs = [true, false, false, false, false, true]) ∨ ((0 ≤ t ∧ 1 ≤ b) ∧ call ≤ 5 ∧ (t = 0 ∨ b ≤ t) ∧ bs = [false, true, false, false, false, true]) ∨ (Fine call t b ∧ bs = [])
def sp_kinds (K : PySem.W.Frag) : Sp := fun vs H Q _ => ∃ (p : Addr) (call t b : Int), vs = [.int call, .ref p] ∧ H p = some (.tup [.int t, .int b]) ∧ 0 ≤ call ∧ call ≤ 7 ∧ t ≤ 40 ∧ b ≤ 40 ∧ (4 ≤ call → call ≤ 5 → 0 < t → t < b → t ≤ 5) ∧
  ∀ (r : Addr) (H' : Hp) (bs : List Bool), Same H H' → H' r = some (.lst (bs.map V.bl)) → KindsAre call t b bs → Q (.ref r) H'
theorem sc_law_kinds : FnScope ["call", "pair", "kinds", "e"] ["call", "pair"] (defScope s_law_kinds) := ⟨rfl, rfl, rfl, by decide +kernel, rfl, by decide +kernel, by decide +kernel⟩
theorem cal_law_kinds {S C1 C2 C3 C4 C5 : Addr} (D : Def K mg "_law_kinds" s_law_kinds) (m_ShareError : mg "ShareError" = some (.ref S)) (R_NoFraction : Raised K S C1 C2 C3 C4 C5 C1 true false false false false) (R_NotBelow : Raised K S C1 C2 C3 C4 C5 C2 false true false false false)
    (c_law_call : Cal P w K mg base (CXE P w) "_law_call" ["call", "pair"] 8 (spE_call3 K C1 C2)) (c_law_kind : CalN P w K mg base "_law_kind" ["e"] 1 (sp_kind K S C1 C2 C3 C4 C5)) : Cal P w K mg base CX0 "_law_kinds" ["call", "pair"] 9 (sp_kinds K) := by
  refine D.cal sc_law_kinds (fun _ _ _ _ _ _ us hl => match us, hl with | [_, _], _ => rfl) (fun vs H Q E h => ?_) (fun f cdv A outer s H vs Q E hr h => ?_)
  · obtain ⟨p, call, t, b, rfl, _⟩ := h
    rfl
  obtain ⟨p, call, t, b, rfl, hp, k0, k7, t1, b1, k5, q⟩ := h
  refine ⟨_, (pss_cons (ps_set (i := 2) sc_law_kinds.nd rfl (Or.inl rfl) (pe_lst pa_nil))
    (pss_cons (ps_tryE (m := 3) c_law_call hr sc_law_kinds.nd rfl rfl (pa_cons (pv 0) (pa_cons (pv 1) pa_nil)) m_ShareError (fun x E' => (pss_one (ps_set (i := 2) sc_law_kinds.nd rfl (Or.inl rfl) (pe_calN c_law_kind (hr.toN _) (pa_cons (pv 3) pa_nil))))))
    (pss_one (ps_ret (pv 2))))), ?_⟩
  refine ⟨(by decide : 0 ≤ sizeLine), fun l hl => ?_⟩
  have g0 : Same H (upd H l (.lst [])) := Same.new hl _
  refine ⟨fun C _ H' => Same (upd H l (.lst [])) H' ∧ ((C = .ref C1 ∧ ¬ (0 ≤ t ∧ 1 ≤ b)) ∨ (C = .ref C2 ∧ (0 ≤ t ∧ 1 ≤ b) ∧ call ≤ 5 ∧ (t = 0 ∨ b ≤ t))), ?_, fun C H2 hE => ?_⟩
  · refine ⟨_, rfl, _, rfl, p, call, t, b, rfl, g0 _ _ hp, k0, k7, t1, b1, k5, fun w H' g => ⟨g, .inl ⟨rfl, w⟩⟩, fun w1 w2 w3 H' g => ⟨g, .inr ⟨rfl, w1, w2, w3⟩⟩, fun w H' g => ?_⟩
    exact ⟨_, rfl, q l H' [] (g0.trans g) (g _ _ upd_same) (.inr (.inr ⟨w, rfl⟩))⟩
  · obtain ⟨g, hE⟩ := hE
    rcases hE with ⟨rfl, w⟩ | ⟨rfl, w1, w2, w3⟩
    · refine ⟨C1, rfl, R_NoFraction.exm, fun x hx => ?_⟩
      have gx := Same.new hx (ExcO x C1)
      refine ⟨_, rfl, x, C1, _, _, _, _, _, rfl, upd_same, R_NoFraction, fun r H' hr' g2 e2 => ?_⟩
      exact ⟨_, rfl, q r H' _ (g0.trans (g.trans (gx.trans g2))) e2 (.inl ⟨w, rfl⟩)⟩
    · refine ⟨C2, rfl, R_NotBelow.exm, fun x hx => ?_⟩
      have gx := Same.new hx (ExcO x C2)
      refine ⟨_, rfl, x, C2, _, _, _, _, _, rfl, upd_same, R_NotBelow, fun r H' hr' g2 e2 => ?_⟩
      exact ⟨_, rfl, q r H' _ (g0.trans (g.trans (gx.trans g2))) e2 (.inr (.inl ⟨w1, w2, w3, rfl⟩))⟩
/-- what law(script) promises: for a list of at most 63 ints the answer is True -/
def sp_law (K : PySem.W.Frag) : Sp := fun vs H Q _ => ∃ (a : Addr) (ns : List Int), vs = [.ref a] ∧ SqL K H a (ns.map V.int) ∧ ns.length ≤ 63 ∧ ∀ H', Q (.bl true) H'
theorem dvs_bl {K : PySem.W.Frag} {H : Hp} : ∀ bs : List Bool, DVs K H (bs.map V.bl) (bs.map PyData.bool)
  | [] => .nil
  | n :: r => .cons (.bl n) (dvs_bl r)
def kNF : List Bool := [true, false, false, false, false, true]
def kNB : List Bool := [false, true, false, false, false, true]
def bs1 (t b : Int) : List Bool := if t < 1 ∨ t ≥ b then kNB else []
def bsD (t b : Int) : List Bool := if t < 0 ∨ b < 1 then kNF else bs1 t b
def alD (call t b : Int) : List Bool := if 5 < call ∧ bsD t b = kNB then [] else bsD t b
def Kd (bs : List Bool) : Prop := bs = kNF ∨ bs = kNB ∨ bs = []
theorem kd_bs1 (t b : Int) : Kd (bs1 t b) := by unfold bs1; split; exact .inr (.inl rfl); exact .inr (.inr rfl)
theorem kd_bsD (t b : Int) : Kd (bsD t b) := by unfold bsD; split; exact .inl rfl; exact kd_bs1 t b
theorem kd_alD (c t b : Int) : Kd (alD c t b) := by unfold alD; split; exact .inr (.inr rfl); exact kd_bsD t b
theorem eqv_kd (bs cs : List Bool) (h : Kd bs) (k : Kd cs) : PyData.eqv (.list (bs.map PyData.bool)) (.list (cs.map PyData.bool)) = decide (bs = cs) := by
  rcases h with rfl | rfl | rfl <;> rcases k with rfl | rfl | rfl <;> decide +kernel
theorem shaped_kd (bs : List Bool) (h : Kd bs) : SeqAt.shaped (.list (bs.map PyData.bool)) = true := by
  rcases h with rfl | rfl | rfl <;> decide +kernel
theorem kinds_are {call t b : Int} {bs : List Bool} (c0 : 0 ≤ call) (h : KindsAre call t b bs) : bs = alD call t b := by
  unfold alD bsD bs1
  rcases h with ⟨h, rfl⟩ | ⟨h1, h2, h3, rfl⟩ | ⟨h, rfl⟩
  · rw [if_pos (show t < 0 ∨ b < 1 by omega), if_neg (fun z => absurd z.2 (by decide))]; rfl
  · rw [if_neg (show ¬ (t < 0 ∨ b < 1) by omega), if_neg (fun z => by omega), if_pos (by omega)]; rfl
  · obtain ⟨h1, h2⟩ := h
    rw [if_neg (show ¬ (t < 0 ∨ b < 1) by omega)]
    by_cases c : t < 1 ∨ t ≥ b
    · rw [if_pos c, if_pos ⟨by omega, rfl⟩]
    · rw [if_neg c]
      split <;> rfl
structure K3 (K : PySem.W.Frag) (a : Addr) (ns : List Int) (p : Addr) (t b : Int) (H : Hp) : Prop where
  hS : SqL K H a (ns.map V.int)
  hp : H p = some (.tup [.int t, .int b])
  t1 : t ≤ 40
  b1 : b ≤ 40
theorem K3.same {K : PySem.W.Frag} {a : Addr} {ns : List Int} {p : Addr} {t b : Int} {H H' : Hp} (k : K3 K a ns p t b H) (g : Same H H') : K3 K a ns p t b H' := ⟨g.seq k.hS, g _ _ k.hp, k.t1, k.b1⟩
def m3A (K : PySem.W.Frag) (a : Addr) (ns : List Int) : TS := fun D σ H => (∀ H', D.rt (.bl true) H') ∧ ∃ (p d : Addr) (t b : Int), K3 K a ns p t b H ∧ H d = some (.lst ((bs1 t b).map V.bl)) ∧ σ = [some (.ref a), some (.ref p), some (.ref d), none, none]
def m3B (K : PySem.W.Frag) (a : Addr) (ns : List Int) : TS := fun D σ H => (∀ H', D.rt (.bl true) H') ∧ ∃ (p d : Addr) (t b : Int), K3 K a ns p t b H ∧ H d = some (.lst ((bsD t b).map V.bl)) ∧ σ = [some (.ref a), some (.ref p), some (.ref d), none, none]
def Cok (call t b : Int) : Prop := 0 ≤ call ∧ call ≤ 7 ∧ (4 ≤ call → call ≤ 5 → 0 < t → t < b → t ≤ 5)
def m3C (K : PySem.W.Frag) (a : Addr) (ns : List Int) : TS := fun D σ H => (∀ H', D.rt (.bl true) H') ∧ ∃ (p d : Addr) (t b call : Int), K3 K a ns p t b H ∧ H d = some (.lst ((bsD t b).map V.bl)) ∧ Cok call t b ∧ σ = [some (.ref a), some (.ref p), some (.ref d), some (.int call), none]
def m3D (K : PySem.W.Frag) (a : Addr) (ns : List Int) : TS := fun D σ H => (∀ H', D.rt (.bl true) H') ∧ ∃ (p d l : Addr) (t b call : Int), K3 K a ns p t b H ∧ H d = some (.lst ((bsD t b).map V.bl)) ∧ Cok call t b ∧ H l = some (.lst ((alD call t b).map V.bl)) ∧ σ = [some (.ref a), some (.ref p), some (.ref d), some (.int call), some (.ref l)]
theorem sc_law : FnScope ["script", "pair", "due", "call", "alone"] ["script"] (defScope s_law) := ⟨rfl, rfl, rfl, by decide +kernel, rfl, by decide +kernel, by decide +kernel⟩
set_option maxHeartbeats 4000000 in
theorem ok_law (D : Def K mg "law" s_law) (c_law_cell_at : Cal P w K mg base CX0 "_law_cell_at" ["script", "k"] 1 (sp_cell K)) (c_law_kinds : Cal P w K mg base CX0 "_law_kinds" ["call", "pair"] 9 (sp_kinds K)) : Cal P w K mg base CX0 "law" ["script"] 10 (sp_law K) := by
  refine D.cal sc_law (fun _ _ _ _ _ _ us hl => match us, hl with | [_], _ => rfl) (fun vs H Q E h => ?_) (fun f cdv A outer s H vs Q E hr h => ?_)
  · obtain ⟨a, ns, rfl, _⟩ := h
    rfl
  obtain ⟨a, ns, rfl, hS, h63, q⟩ := h
  have hu := hr.units
  refine ⟨_, (pss_cons (ps_set (i := 1) sc_law.nd rfl (Or.inl rfl) (pe_tup (pa_cons (pe_op op_sub (pe_op op_mod (pe_cal c_law_cell_at hr pass0 (pa_cons (pv 0) (pa_cons pe_int pa_nil))) pe_int) pe_int) (pa_cons (pe_op op_sub (pe_op op_mod (pe_cal c_law_cell_at hr pass0 (pa_cons (pv 0) (pa_cons pe_int pa_nil))) pe_int) pe_int) pa_nil))))
    (pss_cons (ps_set (i := 2) sc_law.nd rfl (Or.inl rfl) (pe_lst pa_nil))
    (pss_cons (ps_if (pw_or (pt_cmpR op_lt (pe_ix ix_tup (pv 1) pe_int (fun _ _ => rfl)) pe_int (nomark _)) (pw_or1 (pt_cmpR op_ge (pe_ix ix_tup (pv 1) pe_int (fun _ _ => rfl)) (pe_ix ix_tup (pv 1) pe_int (fun _ _ => rfl)) (nomark _)))).pt
      (pss_one (ps_set (i := 2) sc_law.nd rfl (Or.inl rfl) (pe_lst (pa_cons pe_bl (pa_cons pe_bl (pa_cons pe_bl (pa_cons pe_bl (pa_cons pe_bl (pa_cons pe_bl pa_nil)))))))))
      pss_nil)
    (PSs.imp (t' := (m3A K a ns))
    (pss_cons (ps_if (pw_or (pt_cmpR op_lt (pe_ix ix_tup (pv 1) pe_int (fun _ _ => rfl)) pe_int (nomark _)) (pw_or1 (pt_cmpR op_lt (pe_ix ix_tup (pv 1) pe_int (fun _ _ => rfl)) pe_int (nomark _)))).pt
      (pss_one (ps_set (i := 2) sc_law.nd rfl (Or.inl rfl) (pe_lst (pa_cons pe_bl (pa_cons pe_bl (pa_cons pe_bl (pa_cons pe_bl (pa_cons pe_bl (pa_cons pe_bl pa_nil)))))))))
      pss_nil)
    (PSs.imp (t' := (m3B K a ns))
    (pss_cons (ps_set (i := 3) sc_law.nd rfl (Or.inl rfl) (pe_op op_mod (pe_cal c_law_cell_at hr pass0 (pa_cons (pv 0) (pa_cons pe_int pa_nil))) pe_int))
    (pss_cons (ps_if (pw_and (pt_cmpR op_gt (pv 3) pe_int (nomark _)) (pw_and (pt_cmpR op_lt (pv 3) pe_int (nomark _)) (pw_and (pt_cmpR (op_eqD hu) (pv 2) (pe_lst pa_nil) (nomark _)) (pw_and1 (pt_cmpR op_gt (pe_ix ix_tup (pv 1) pe_int (fun _ _ => rfl)) pe_int (nomark _)))))).pt
      (pss_one (ps_set (i := 3) sc_law.nd rfl (Or.inl rfl) pe_int))
      pss_nil)
    (PSs.imp (t' := (m3C K a ns))
    (pss_cons (ps_set (i := 4) sc_law.nd rfl (Or.inl rfl) (pv 2))
    (pss_cons (ps_if (pw_and (pt_cmpR op_gt (pv 3) pe_int (nomark _)) (pw_and (pt_cmpR (op_neD hu) (pv 2) (pe_lst pa_nil) (nomark _)) (pw_and1 (pt_val (pe_ix ix_list (pv 2) pe_int (fun _ _ => rfl)))))).pt
      (pss_one (ps_set (i := 4) sc_law.nd rfl (Or.inl rfl) (pe_lst pa_nil)))
      pss_nil)
    (PSs.imp (t' := (m3D K a ns))
    (pss_one (ps_ret (pe_and (pe_cmpR (op_eqD hu) (pe_cal c_law_kinds hr pass0 (pa_cons (pv 3) (pa_cons (pv 1) pa_nil))) (pv 4) (nomark _)) (pe_one (pe_cmpR (op_eqD hu) (pe_cal c_law_kinds hr pass0 (pa_cons pe_int (pa_cons (pv 1) pa_nil))) (pv 2) (nomark _)))))) ?m4))) ?m3))) ?m2)) ?m1)))), ?_⟩
  case m4 =>
    rintro D σ H ⟨q, p, d, l, t, b, call, k, hd, ⟨c0, c7, c5⟩, hl, rfl⟩
    refine ⟨_, rfl, _, rfl, p, call, t, b, rfl, k.hp, c0, c7, k.t1, k.b1, c5, fun r H1 bs g1 e1 hk => ?_⟩
    obtain rfl := kinds_are c0 hk
    refine ⟨_, rfl, _, _, .lst (SqL.of e1) (dvs_bl _), .lst (SqL.of (g1 _ _ hl)) (dvs_bl _), shaped_kd _ (kd_alD _ _ _), shaped_kd _ (kd_alD _ _ _), _, rfl, ?_⟩
    rw [eqv_kd _ _ (kd_alD _ _ _) (kd_alD _ _ _)]
    refine iteDT rfl ?_
    refine ⟨_, rfl, p, 3, t, b, rfl, g1 _ _ k.hp, by decide, by decide, k.t1, k.b1, fun z => absurd z (by decide), fun r2 H2 bs2 g2 e2 hk2 => ?_⟩
    obtain rfl := kinds_are (by decide) hk2
    have e3 : alD 3 t b = bsD t b := by unfold alD; exact if_neg (fun z => absurd z.1 (by decide))
    rw [e3] at e2
    refine ⟨_, rfl, _, _, .lst (SqL.of e2) (dvs_bl _), .lst (SqL.of (g2 _ _ (g1 _ _ hd))) (dvs_bl _), shaped_kd _ (kd_bsD _ _), shaped_kd _ (kd_bsD _ _), ?_⟩
    rw [eqv_kd _ _ (kd_bsD _ _) (kd_bsD _ _), decide_eq_true rfl]
    exact q _
  case m3 =>
    rintro D σ H ⟨q, p, d, t, b, call, k, hd, ck, rfl⟩
    refine ⟨_, rfl, ?_⟩
    have keep : ∀ H', Same H H' → ¬ (5 < call ∧ bsD t b = kNB) → m3D K a ns D [some (.ref a), some (.ref p), some (.ref d), some (.int call), some (.ref d)] H' := fun H' g n => ⟨q, p, d, d, t, b, call, k.same g, g _ _ hd, ck, by unfold alD; rw [if_neg n]; exact g _ _ hd, rfl⟩
    refine ⟨_, rfl, _, _, rfl, rfl, _, rfl, ?_⟩
    refine ite2 (fun z => ?_) (fun z => ?_)
    · have z' : 5 < call := of_decide_eq_true z
      refine ⟨_, rfl, (by decide : 0 ≤ sizeLine), fun l hl => ?_⟩
      have g := Same.new hl (.lst [])
      refine ⟨_, _, .lst (SqL.of (g _ _ hd)) (dvs_bl _), .lst (SqL.of upd_same) (dvs_bl []), shaped_kd _ (kd_bsD _ _), shaped_kd [] (.inr (.inr rfl)), _, rfl, ?_⟩
      rw [eqv_kd _ [] (kd_bsD _ _) (.inr (.inr rfl))]
      by_cases y : bsD t b = []
      · rw [decide_eq_true y]
        refine iteF (iteF ?_)
        exact keep _ g (fun h => by rw [y] at h; exact absurd h.2 (by decide))
      · rw [decide_eq_false y]
        refine iteT ?_
        have hd' := g _ _ hd
        have kd := kd_bsD t b
        generalize upd H l (.lst []) = H1 at *
        rcases kd with e | e | e
        · rw [e] at hd'
          refine ⟨_, rfl, d, _, _, _, rfl, rfl, SqL.of hd', rfl, _, rfl, ?_⟩
          refine iteF ?_
          exact keep _ g (fun h => by rw [e] at h; exact absurd h.2 (by decide))
        · rw [e] at hd'
          refine ⟨_, rfl, d, _, _, _, rfl, rfl, SqL.of hd', rfl, _, rfl, ?_⟩
          refine iteT ?_
          refine ⟨(by decide : 0 ≤ sizeLine), fun l2 hl2 => ?_⟩
          have g2 := Same.new hl2 (.lst [])
          refine ⟨q, p, d, l2, t, b, call, k.same (g.trans g2), g2 _ _ (g _ _ hd), ck, ?_, rfl⟩
          unfold alD
          rw [if_pos ⟨z', e⟩]
          exact upd_same
        · exact absurd e y
    · have z' : ¬ 5 < call := of_decide_eq_false (Bool.eq_false_iff.mpr z)
      refine iteF ?_
      exact keep H (Same.refl H) (fun h => z' h.1)
  case m2 =>
    rintro D σ H ⟨q, p, d, t, b, k, hd, rfl⟩
    have l0 := Int.emod_nonneg (ns.getD (2 : Int).toNat 0) (show (8 : Int) ≠ 0 by decide)
    have l1 := Int.emod_lt_of_pos (ns.getD (2 : Int).toNat 0) (show (0 : Int) < 8 by decide)
    refine ⟨_, rfl, a, ns, 2, rfl, k.hS, by decide, _, _, rfl, rfl, (by decide : (0 : Int) < 8), ?_⟩
    dsimp only
    generalize ns.getD (2 : Int).toNat 0 % 8 = call at *
    have keep : ∀ H', Same H H' → (4 ≤ call → call ≤ 5 → 0 < t → t < b → t ≤ 5) → m3C K a ns D [some (.ref a), some (.ref p), some (.ref d), some (.int call), none] H' := fun H' g n => ⟨q, p, d, t, b, call, k.same g, g _ _ hd, ⟨l0, by omega, n⟩, rfl⟩
    refine ⟨_, rfl, _, _, rfl, rfl, _, rfl, ?_⟩
    refine ite2 (fun z => ?_) (fun z => ?_)
    · have z' : 3 < call := of_decide_eq_true z
      refine ⟨_, rfl, _, _, rfl, rfl, _, rfl, ?_⟩
      refine ite2 (fun y => ?_) (fun y => ?_)
      · have y' : call < 6 := of_decide_eq_true y
        refine ⟨_, rfl, (by decide : 0 ≤ sizeLine), fun l hl => ?_⟩
        have g := Same.new hl (.lst [])
        refine ⟨_, _, .lst (SqL.of (g _ _ hd)) (dvs_bl _), .lst (SqL.of upd_same) (dvs_bl []), shaped_kd _ (kd_bsD _ _), shaped_kd [] (.inr (.inr rfl)), _, rfl, ?_⟩
        rw [eqv_kd _ [] (kd_bsD _ _) (.inr (.inr rfl))]
        generalize upd H l (.lst []) = H1 at *
        refine ite2 (fun e => ?_) (fun e => ?_)
        · refine ⟨_, rfl, p, _, _, _, rfl, rfl, SqT.of (g _ _ k.hp), at0, _, _, rfl, rfl, _, rfl, ?_⟩
          refine ite2 (fun w => ?_) (fun w => ?_)
          · exact ⟨q, p, d, t, b, 3, k.same g, g _ _ hd, ⟨by decide, by decide, fun z => absurd z (by decide)⟩, rfl⟩
          · have w' : ¬ 5 < t := of_decide_eq_false (Bool.eq_false_iff.mpr w)
            exact keep _ g (fun _ _ _ _ => by omega)
        · have e' : bsD t b ≠ [] := of_decide_eq_false (Bool.eq_false_iff.mpr e)
          refine iteF ?_
          exact keep _ g (fun _ _ h1 h2 => absurd (by unfold bsD bs1; rw [if_neg (by omega), if_neg (by omega)]) e')
      · have y' : ¬ call < 6 := of_decide_eq_false (Bool.eq_false_iff.mpr y)
        refine iteF ?_
        exact keep _ (Same.refl H) (fun _ _ _ _ => by omega)
    · have z' : ¬ 3 < call := of_decide_eq_false (Bool.eq_false_iff.mpr z)
      refine iteF ?_
      exact keep _ (Same.refl H) (fun _ _ _ _ => by omega)
  case m1 =>
    rintro D σ H ⟨q, p, d, t, b, k, hd, rfl⟩
    have keep : ¬ (t < 0 ∨ b < 1) → m3B K a ns D [some (.ref a), some (.ref p), some (.ref d), none, none] H := fun n => ⟨q, p, d, t, b, k, by unfold bsD; rw [if_neg n]; exact hd, rfl⟩
    have put : (t < 0 ∨ b < 1) → ∀ D', D'.nx = m3B K a ns D → tAsg (tLst (tCons (tC (.bl true)) (tCons (tC (.bl false)) (tCons (tC (.bl false)) (tCons (tC (.bl false)) (tCons (tC (.bl false)) (tCons (tC (.bl true)) tNil))))))) (gName 2) D' [some (.ref a), some (.ref p), some (.ref d), none, none] H := fun n D' hD => by
      refine ⟨(by decide : 6 ≤ sizeLine), fun l2 hl2 => ?_⟩
      have g2 := Same.new hl2 (.lst (kNF.map V.bl))
      show D'.nx _ _
      rw [hD]
      exact ⟨q, p, l2, t, b, k.same g2, by unfold bsD; rw [if_pos n]; exact upd_same, rfl⟩
    refine ⟨_, rfl, p, _, _, _, rfl, rfl, SqT.of k.hp, at0, _, _, rfl, rfl, _, rfl, ?_⟩
    refine ite2 (fun z => ?_) (fun z => ?_)
    · have z' : t < 0 := of_decide_eq_true z
      refine iteT ?_
      exact put (.inl z') _ rfl
    · have z' : ¬ t < 0 := of_decide_eq_false (Bool.eq_false_iff.mpr z)
      refine ⟨_, rfl, p, _, _, _, rfl, rfl, SqT.of k.hp, at1, _, _, rfl, rfl, _, rfl, ?_⟩
      refine ite2 (fun y => ?_) (fun y => ?_)
      · have y' : b < 1 := of_decide_eq_true y
        exact put (.inr y') _ rfl
      · have y' : ¬ b < 1 := of_decide_eq_false (Bool.eq_false_iff.mpr y)
        exact keep (fun h => h.elim z' y')
  have l0 := Int.emod_nonneg (ns.getD (0 : Int).toNat 0) (show (44 : Int) ≠ 0 by decide)
  have l1 := Int.emod_lt_of_pos (ns.getD (0 : Int).toNat 0) (show (0 : Int) < 44 by decide)
  have l2 := Int.emod_nonneg (ns.getD (1 : Int).toNat 0) (show (42 : Int) ≠ 0 by decide)
  have l3 := Int.emod_lt_of_pos (ns.getD (1 : Int).toNat 0) (show (0 : Int) < 42 by decide)
  refine ⟨_, rfl, a, ns, 0, rfl, hS, by decide, _, _, rfl, rfl, (by decide : (0 : Int) < 44), _, _, rfl, rfl, _, rfl, a, ns, 1, rfl, hS, by decide, _, _, rfl, rfl, (by decide : (0 : Int) < 42), _, _, rfl, rfl, (by decide : 2 ≤ sizeLine), fun p hp => ?_⟩
  dsimp only
  generalize ht : ns.getD (0 : Int).toNat 0 % 44 - 3 = t at *
  generalize hb : ns.getD (1 : Int).toNat 0 % 42 - 1 = b at *
  have g := Same.new hp (.tup [.int t, .int b])
  have hp' : upd H p (.tup [.int t, .int b]) p = some (.tup [.int t, .int b]) := upd_same
  refine ⟨(by decide : 0 ≤ sizeLine), fun d hd => ?_⟩
  have k : K3 K a ns p t b (upd H p (.tup [.int t, .int b])) := ⟨g.seq hS, hp', by omega, by omega⟩
  generalize upd H p (.tup [.int t, .int b]) = H1 at *
  have k1 := k.same (Same.new hd (.lst []))
  have hd1 : upd H1 d (.lst []) d = some (.lst []) := upd_same
  generalize upd H1 d (.lst []) = H2 at *
  have keep : ¬ (t < 1 ∨ t ≥ b) → m3A K a ns { nx := fun x H' => Q V.non H', rt := Q } [some (.ref a), some (.ref p), some (.ref d), none, none] H2 := fun n => ⟨q, p, d, t, b, k1, by unfold bs1; rw [if_neg n]; exact hd1, rfl⟩
  have put : (t < 1 ∨ t ≥ b) → ∀ D', D'.nx = m3A K a ns { nx := fun x H' => Q V.non H', rt := Q } → tAsg (tLst (tCons (tC (.bl false)) (tCons (tC (.bl true)) (tCons (tC (.bl false)) (tCons (tC (.bl false)) (tCons (tC (.bl false)) (tCons (tC (.bl true)) tNil))))))) (gName 2) D' [some (.ref a), some (.ref p), some (.ref d), none, none] H2 := fun n D' hD => by
    refine ⟨(by decide : 6 ≤ sizeLine), fun l2 hl2 => ?_⟩
    have g2 := Same.new hl2 (.lst (kNB.map V.bl))
    show D'.nx _ _
    rw [hD]
    exact ⟨q, p, l2, t, b, k1.same g2, by unfold bs1; rw [if_pos n]; exact upd_same, rfl⟩
  refine ⟨_, rfl, p, _, _, _, rfl, rfl, SqT.of k1.hp, at0, _, _, rfl, rfl, _, rfl, ?_⟩
  refine ite2 (fun z => ?_) (fun z => ?_)
  · have z' : t < 1 := of_decide_eq_true z
    refine iteT ?_
    exact put (.inl z') _ rfl
  · have z' : ¬ t < 1 := of_decide_eq_false (Bool.eq_false_iff.mpr z)
    refine ⟨_, rfl, p, _, _, _, rfl, rfl, SqT.of k1.hp, at0, _, rfl, p, _, _, _, rfl, rfl, SqT.of k1.hp, at1, _, _, rfl, rfl, _, rfl, ?_⟩
    refine ite2 (fun y => ?_) (fun y => ?_)
    · have y' : b ≤ t := of_decide_eq_true y
      exact put (.inr y') _ rfl
    · have y' : ¬ b ≤ t := of_decide_eq_false (Bool.eq_false_iff.mpr y)
      exact keep (fun h => h.elim z' y')
end
theorem all_mk {l : PySem.W.OpenLaw} {w : World} {K : PySem.W.Frag} {h : Heap} {mg : Str → Option Value} {fa : Addr} (X : K.In h) (G : h.Ns mainGlobals mg) (hfa : mg "law" = some (.ref fa))
    {f0 : Addr} {od0 an0 : Option Addr} {sl0 : Array (Option Value)} {oc0 kV0 dc0 pm0 cd0 ct0 : Value}
    (a0 : PySem.W.nsIn K mainGlobals "_law_cell_at" = some (some (.ref f0))) (l0 : K.lookup f0 = some ⟨oc0, od0, .func (PySem.W.fnOf "_law_cell_at" "_law_cell_at" (defArgs s_law_cell_at) (defBody s_law_cell_at) (defScope s_law_cell_at) .none kV0 dc0 pm0 an0 cd0 ct0), sl0⟩) (c0 : PySem.W.codeIn K cd0 "_law_cell_at" = true) (k0 : PySem.W.keepIn K (.ref f0) = true)
    {f1 : Addr} {od1 an1 : Option Addr} {sl1 : Array (Option Value)} {oc1 kV1 dc1 pm1 cd1 ct1 : Value}
    (a1 : PySem.W.nsIn K mainGlobals "check_fraction" = some (some (.ref f1))) (l1 : K.lookup f1 = some ⟨oc1, od1, .func (PySem.W.fnOf "check_fraction" "check_fraction" (defArgs s_check_fraction) (defBody s_check_fraction) (defScope s_check_fraction) .none kV1 dc1 pm1 an1 cd1 ct1), sl1⟩) (c1 : PySem.W.codeIn K cd1 "check_fraction" = true) (k1 : PySem.W.keepIn K (.ref f1) = true)
    {f2 : Addr} {od2 an2 : Option Addr} {sl2 : Array (Option Value)} {oc2 kV2 dc2 pm2 cd2 ct2 : Value}
    (a2 : PySem.W.nsIn K mainGlobals "check_has_ways" = some (some (.ref f2))) (l2 : K.lookup f2 = some ⟨oc2, od2, .func (PySem.W.fnOf "check_has_ways" "check_has_ways" (defArgs s_check_has_ways) (defBody s_check_has_ways) (defScope s_check_has_ways) .none kV2 dc2 pm2 an2 cd2 ct2), sl2⟩) (c2 : PySem.W.codeIn K cd2 "check_has_ways" = true) (k2 : PySem.W.keepIn K (.ref f2) = true)
    {f3 : Addr} {od3 an3 : Option Addr} {sl3 : Array (Option Value)} {oc3 kV3 dc3 pm3 cd3 ct3 : Value}
    (a3 : PySem.W.nsIn K mainGlobals "only_share" = some (some (.ref f3))) (l3 : K.lookup f3 = some ⟨oc3, od3, .func (PySem.W.fnOf "only_share" "only_share" (defArgs s_only_share) (defBody s_only_share) (defScope s_only_share) .none kV3 dc3 pm3 an3 cd3 ct3), sl3⟩) (c3 : PySem.W.codeIn K cd3 "only_share" = true) (k3 : PySem.W.keepIn K (.ref f3) = true)
    {f4 : Addr} {od4 an4 : Option Addr} {sl4 : Array (Option Value)} {oc4 kV4 dc4 pm4 cd4 ct4 : Value}
    (a4 : PySem.W.nsIn K mainGlobals "ways_above" = some (some (.ref f4))) (l4 : K.lookup f4 = some ⟨oc4, od4, .func (PySem.W.fnOf "ways_above" "ways_above" (defArgs s_ways_above) (defBody s_ways_above) (defScope s_ways_above) .none kV4 dc4 pm4 an4 cd4 ct4), sl4⟩) (c4 : PySem.W.codeIn K cd4 "ways_above" = true) (k4 : PySem.W.keepIn K (.ref f4) = true)
    {f5 : Addr} {od5 an5 : Option Addr} {sl5 : Array (Option Value)} {oc5 kV5 dc5 pm5 cd5 ct5 : Value}
    (a5 : PySem.W.nsIn K mainGlobals "all_ways" = some (some (.ref f5))) (l5 : K.lookup f5 = some ⟨oc5, od5, .func (PySem.W.fnOf "all_ways" "all_ways" (defArgs s_all_ways) (defBody s_all_ways) (defScope s_all_ways) .none kV5 dc5 pm5 an5 cd5 ct5), sl5⟩) (c5 : PySem.W.codeIn K cd5 "all_ways" = true) (k5 : PySem.W.keepIn K (.ref f5) = true)
    {f6 : Addr} {od6 an6 : Option Addr} {sl6 : Array (Option Value)} {oc6 kV6 dc6 pm6 cd6 ct6 : Value}
    (a6 : PySem.W.nsIn K mainGlobals "fewest" = some (some (.ref f6))) (l6 : K.lookup f6 = some ⟨oc6, od6, .func (PySem.W.fnOf "fewest" "fewest" (defArgs s_fewest) (defBody s_fewest) (defScope s_fewest) .none kV6 dc6 pm6 an6 cd6 ct6), sl6⟩) (c6 : PySem.W.codeIn K cd6 "fewest" = true) (k6 : PySem.W.keepIn K (.ref f6) = true)
    {f7 : Addr} {od7 an7 : Option Addr} {sl7 : Array (Option Value)} {oc7 kV7 dc7 pm7 cd7 ct7 : Value}
    (a7 : PySem.W.nsIn K mainGlobals "common_divisor" = some (some (.ref f7))) (l7 : K.lookup f7 = some ⟨oc7, od7, .func (PySem.W.fnOf "common_divisor" "common_divisor" (defArgs s_common_divisor) (defBody s_common_divisor) (defScope s_common_divisor) .none kV7 dc7 pm7 an7 cd7 ct7), sl7⟩) (c7 : PySem.W.codeIn K cd7 "common_divisor" = true) (k7 : PySem.W.keepIn K (.ref f7) = true)
    {f8 : Addr} {od8 an8 : Option Addr} {sl8 : Array (Option Value)} {oc8 kV8 dc8 pm8 cd8 ct8 : Value}
    (a8 : PySem.W.nsIn K mainGlobals "lowest" = some (some (.ref f8))) (l8 : K.lookup f8 = some ⟨oc8, od8, .func (PySem.W.fnOf "lowest" "lowest" (defArgs s_lowest) (defBody s_lowest) (defScope s_lowest) .none kV8 dc8 pm8 an8 cd8 ct8), sl8⟩) (c8 : PySem.W.codeIn K cd8 "lowest" = true) (k8 : PySem.W.keepIn K (.ref f8) = true)
    {f9 : Addr} {od9 an9 : Option Addr} {sl9 : Array (Option Value)} {oc9 kV9 dc9 pm9 cd9 ct9 : Value}
    (a9 : PySem.W.nsIn K mainGlobals "divisors" = some (some (.ref f9))) (l9 : K.lookup f9 = some ⟨oc9, od9, .func (PySem.W.fnOf "divisors" "divisors" (defArgs s_divisors) (defBody s_divisors) (defScope s_divisors) .none kV9 dc9 pm9 an9 cd9 ct9), sl9⟩) (c9 : PySem.W.codeIn K cd9 "divisors" = true) (k9 : PySem.W.keepIn K (.ref f9) = true)
    {f10 : Addr} {od10 an10 : Option Addr} {sl10 : Array (Option Value)} {oc10 kV10 dc10 pm10 cd10 ct10 : Value}
    (a10 : PySem.W.nsIn K mainGlobals "least_counts" = some (some (.ref f10))) (l10 : K.lookup f10 = some ⟨oc10, od10, .func (PySem.W.fnOf "least_counts" "least_counts" (defArgs s_least_counts) (defBody s_least_counts) (defScope s_least_counts) .none kV10 dc10 pm10 an10 cd10 ct10), sl10⟩) (c10 : PySem.W.codeIn K cd10 "least_counts" = true) (k10 : PySem.W.keepIn K (.ref f10) = true)
    {f11 : Addr} {od11 an11 : Option Addr} {sl11 : Array (Option Value)} {oc11 kV11 dc11 pm11 cd11 ct11 : Value}
    (a11 : PySem.W.nsIn K mainGlobals "parts" = some (some (.ref f11))) (l11 : K.lookup f11 = some ⟨oc11, od11, .func (PySem.W.fnOf "parts" "parts" (defArgs s_parts) (defBody s_parts) (defScope s_parts) .none kV11 dc11 pm11 an11 cd11 ct11), sl11⟩) (c11 : PySem.W.codeIn K cd11 "parts" = true) (k11 : PySem.W.keepIn K (.ref f11) = true)
    {f12 : Addr} {od12 an12 : Option Addr} {sl12 : Array (Option Value)} {oc12 kV12 dc12 pm12 cd12 ct12 : Value}
    (a12 : PySem.W.nsIn K mainGlobals "goes_by" = some (some (.ref f12))) (l12 : K.lookup f12 = some ⟨oc12, od12, .func (PySem.W.fnOf "goes_by" "goes_by" (defArgs s_goes_by) (defBody s_goes_by) (defScope s_goes_by) .none kV12 dc12 pm12 an12 cd12 ct12), sl12⟩) (c12 : PySem.W.codeIn K cd12 "goes_by" = true) (k12 : PySem.W.keepIn K (.ref f12) = true)
    {f13 : Addr} {od13 an13 : Option Addr} {sl13 : Array (Option Value)} {oc13 kV13 dc13 pm13 cd13 ct13 : Value}
    (a13 : PySem.W.nsIn K mainGlobals "least_reaching_one" = some (some (.ref f13))) (l13 : K.lookup f13 = some ⟨oc13, od13, .func (PySem.W.fnOf "least_reaching_one" "least_reaching_one" (defArgs s_least_reaching_one) (defBody s_least_reaching_one) (defScope s_least_reaching_one) .none kV13 dc13 pm13 an13 cd13 ct13), sl13⟩) (c13 : PySem.W.codeIn K cd13 "least_reaching_one" = true) (k13 : PySem.W.keepIn K (.ref f13) = true)
    {f14 : Addr} {od14 an14 : Option Addr} {sl14 : Array (Option Value)} {oc14 kV14 dc14 pm14 cd14 ct14 : Value}
    (a14 : PySem.W.nsIn K mainGlobals "rising_factors" = some (some (.ref f14))) (l14 : K.lookup f14 = some ⟨oc14, od14, .func (PySem.W.fnOf "rising_factors" "rising_factors" (defArgs s_rising_factors) (defBody s_rising_factors) (defScope s_rising_factors) .none kV14 dc14 pm14 an14 cd14 ct14), sl14⟩) (c14 : PySem.W.codeIn K cd14 "rising_factors" = true) (k14 : PySem.W.keepIn K (.ref f14) = true)
    {f15 : Addr} {od15 an15 : Option Addr} {sl15 : Array (Option Value)} {oc15 kV15 dc15 pm15 cd15 ct15 : Value}
    (a15 : PySem.W.nsIn K mainGlobals "rising" = some (some (.ref f15))) (l15 : K.lookup f15 = some ⟨oc15, od15, .func (PySem.W.fnOf "rising" "rising" (defArgs s_rising) (defBody s_rising) (defScope s_rising) .none kV15 dc15 pm15 an15 cd15 ct15), sl15⟩) (c15 : PySem.W.codeIn K cd15 "rising" = true) (k15 : PySem.W.keepIn K (.ref f15) = true)
    {f16 : Addr} {od16 an16 : Option Addr} {sl16 : Array (Option Value)} {oc16 kV16 dc16 pm16 cd16 ct16 : Value}
    (a16 : PySem.W.nsIn K mainGlobals "check_figures" = some (some (.ref f16))) (l16 : K.lookup f16 = some ⟨oc16, od16, .func (PySem.W.fnOf "check_figures" "check_figures" (defArgs s_check_figures) (defBody s_check_figures) (defScope s_check_figures) .none kV16 dc16 pm16 an16 cd16 ct16), sl16⟩) (c16 : PySem.W.codeIn K cd16 "check_figures" = true) (k16 : PySem.W.keepIn K (.ref f16) = true)
    {f17 : Addr} {od17 an17 : Option Addr} {sl17 : Array (Option Value)} {oc17 kV17 dc17 pm17 cd17 ct17 : Value}
    (a17 : PySem.W.nsIn K mainGlobals "greatest_first" = some (some (.ref f17))) (l17 : K.lookup f17 = some ⟨oc17, od17, .func (PySem.W.fnOf "greatest_first" "greatest_first" (defArgs s_greatest_first) (defBody s_greatest_first) (defScope s_greatest_first) .none kV17 dc17 pm17 an17 cd17 ct17), sl17⟩) (c17 : PySem.W.codeIn K cd17 "greatest_first" = true) (k17 : PySem.W.keepIn K (.ref f17) = true)
    {f18 : Addr} {od18 an18 : Option Addr} {sl18 : Array (Option Value)} {oc18 kV18 dc18 pm18 cd18 ct18 : Value}
    (a18 : PySem.W.nsIn K mainGlobals "rises" = some (some (.ref f18))) (l18 : K.lookup f18 = some ⟨oc18, od18, .func (PySem.W.fnOf "rises" "rises" (defArgs s_rises) (defBody s_rises) (defScope s_rises) .none kV18 dc18 pm18 an18 cd18 ct18), sl18⟩) (c18 : PySem.W.codeIn K cd18 "rises" = true) (k18 : PySem.W.keepIn K (.ref f18) = true)
    {f19 : Addr} {od19 an19 : Option Addr} {sl19 : Array (Option Value)} {oc19 kV19 dc19 pm19 cd19 ct19 : Value}
    (a19 : PySem.W.nsIn K mainGlobals "joined" = some (some (.ref f19))) (l19 : K.lookup f19 = some ⟨oc19, od19, .func (PySem.W.fnOf "joined" "joined" (defArgs s_joined) (defBody s_joined) (defScope s_joined) .none kV19 dc19 pm19 an19 cd19 ct19), sl19⟩) (c19 : PySem.W.codeIn K cd19 "joined" = true) (k19 : PySem.W.keepIn K (.ref f19) = true)
    {f20 : Addr} {od20 an20 : Option Addr} {sl20 : Array (Option Value)} {oc20 kV20 dc20 pm20 cd20 ct20 : Value}
    (a20 : PySem.W.nsIn K mainGlobals "sum_of" = some (some (.ref f20))) (l20 : K.lookup f20 = some ⟨oc20, od20, .func (PySem.W.fnOf "sum_of" "sum_of" (defArgs s_sum_of) (defBody s_sum_of) (defScope s_sum_of) .none kV20 dc20 pm20 an20 cd20 ct20), sl20⟩) (c20 : PySem.W.codeIn K cd20 "sum_of" = true) (k20 : PySem.W.keepIn K (.ref f20) = true)
    {f21 : Addr} {od21 an21 : Option Addr} {sl21 : Array (Option Value)} {oc21 kV21 dc21 pm21 cd21 ct21 : Value}
    (a21 : PySem.W.nsIn K mainGlobals "is_way" = some (some (.ref f21))) (l21 : K.lookup f21 = some ⟨oc21, od21, .func (PySem.W.fnOf "is_way" "is_way" (defArgs s_is_way) (defBody s_is_way) (defScope s_is_way) .none kV21 dc21 pm21 an21 cd21 ct21), sl21⟩) (c21 : PySem.W.codeIn K cd21 "is_way" = true) (k21 : PySem.W.keepIn K (.ref f21) = true)
    {f22 : Addr} {od22 an22 : Option Addr} {sl22 : Array (Option Value)} {oc22 kV22 dc22 pm22 cd22 ct22 : Value}
    (a22 : PySem.W.nsIn K mainGlobals "_law_call" = some (some (.ref f22))) (l22 : K.lookup f22 = some ⟨oc22, od22, .func (PySem.W.fnOf "_law_call" "_law_call" (defArgs s_law_call) (defBody s_law_call) (defScope s_law_call) .none kV22 dc22 pm22 an22 cd22 ct22), sl22⟩) (c22 : PySem.W.codeIn K cd22 "_law_call" = true) (k22 : PySem.W.keepIn K (.ref f22) = true)
    {f23 : Addr} {od23 an23 : Option Addr} {sl23 : Array (Option Value)} {oc23 kV23 dc23 pm23 cd23 ct23 : Value}
    (a23 : PySem.W.nsIn K mainGlobals "_law_kind" = some (some (.ref f23))) (l23 : K.lookup f23 = some ⟨oc23, od23, .func (PySem.W.fnOf "_law_kind" "_law_kind" (defArgs s_law_kind) (defBody s_law_kind) (defScope s_law_kind) .none kV23 dc23 pm23 an23 cd23 ct23), sl23⟩) (c23 : PySem.W.codeIn K cd23 "_law_kind" = true) (k23 : PySem.W.keepIn K (.ref f23) = true)
    {f24 : Addr} {od24 an24 : Option Addr} {sl24 : Array (Option Value)} {oc24 kV24 dc24 pm24 cd24 ct24 : Value}
    (a24 : PySem.W.nsIn K mainGlobals "_law_kinds" = some (some (.ref f24))) (l24 : K.lookup f24 = some ⟨oc24, od24, .func (PySem.W.fnOf "_law_kinds" "_law_kinds" (defArgs s_law_kinds) (defBody s_law_kinds) (defScope s_law_kinds) .none kV24 dc24 pm24 an24 cd24 ct24), sl24⟩) (c24 : PySem.W.codeIn K cd24 "_law_kinds" = true) (k24 : PySem.W.keepIn K (.ref f24) = true)
    {f25 : Addr} {od25 an25 : Option Addr} {sl25 : Array (Option Value)} {oc25 kV25 dc25 pm25 cd25 ct25 : Value}
    (a25 : PySem.W.nsIn K mainGlobals "law" = some (some (.ref f25))) (l25 : K.lookup f25 = some ⟨oc25, od25, .func (PySem.W.fnOf "law" "law" (defArgs s_law) (defBody s_law) (defScope s_law) .none kV25 dc25 pm25 an25 cd25 ct25), sl25⟩) (c25 : PySem.W.codeIn K cd25 "law" = true) (k25 : PySem.W.keepIn K (.ref f25) = true)
    {CS C1 C2 C3 C4 C5 : Addr}
    (aaCS : PySem.W.nsIn K mainGlobals "ShareError" = some (some (.ref CS)))
    (aaC1 : PySem.W.nsIn K mainGlobals "NoFraction" = some (some (.ref C1)))
    (aaC2 : PySem.W.nsIn K mainGlobals "NotBelow" = some (some (.ref C2)))
    (aaC3 : PySem.W.nsIn K mainGlobals "TooGreat" = some (some (.ref C3)))
    (aaC4 : PySem.W.nsIn K mainGlobals "BadText" = some (some (.ref C4)))
    (aaC5 : PySem.W.nsIn K mainGlobals "NotRising" = some (some (.ref C5)))
    (xCS : PySem.W.excIn K CS mroVE "ValueError.__new__" = true) (sBE : PySem.W.subIn K (.ref CS) (.type "BaseException") = some true) (fgg : PySem.W.specialIn K (.builtin "object.__class__") "__get__" = some (some (.builtin "getset_descriptor.__get__"))) (ftt : PySem.W.takesIn K (.builtin "object.__class__") = some true)
    (xC1 : PySem.W.excIn K C1 mroVE "ValueError.__new__" = true) (gaC1 : PySem.W.findIn K (.ref C1) "__getattribute__" = some (some (.builtin "BaseException.__getattribute__"))) (gxC1 : PySem.W.findIn K (.ref C1) "__getattr__" = some none) (faC1 : PySem.W.findIn K (.ref C1) "__class__" = some (some (.builtin "object.__class__"))) (moC1 : PySem.W.mroIn K C1 (.type "object") = some true) (mbC1 : PySem.W.mroIn K C1 (.type "BaseException") = some true) (suC1 : PySem.W.subIn K (.ref C1) (.ref CS) = some true)
    (k1C1 : PySem.W.kitOne K (.ref C1) (.ref C1) = some true)
    (k2C1 : PySem.W.kitOne K (.ref C1) (.ref C2) = some false)
    (k3C1 : PySem.W.kitOne K (.ref C1) (.ref C3) = some false)
    (k4C1 : PySem.W.kitOne K (.ref C1) (.ref C4) = some false)
    (k5C1 : PySem.W.kitOne K (.ref C1) (.ref C5) = some false)
    (k6C1 : PySem.W.kitOne K (.ref C1) (.type "ValueError") = some true)
    (xC2 : PySem.W.excIn K C2 mroVE "ValueError.__new__" = true) (gaC2 : PySem.W.findIn K (.ref C2) "__getattribute__" = some (some (.builtin "BaseException.__getattribute__"))) (gxC2 : PySem.W.findIn K (.ref C2) "__getattr__" = some none) (faC2 : PySem.W.findIn K (.ref C2) "__class__" = some (some (.builtin "object.__class__"))) (moC2 : PySem.W.mroIn K C2 (.type "object") = some true) (mbC2 : PySem.W.mroIn K C2 (.type "BaseException") = some true) (suC2 : PySem.W.subIn K (.ref C2) (.ref CS) = some true)
    (k1C2 : PySem.W.kitOne K (.ref C2) (.ref C1) = some false)
    (k2C2 : PySem.W.kitOne K (.ref C2) (.ref C2) = some true)
    (k3C2 : PySem.W.kitOne K (.ref C2) (.ref C3) = some false)
    (k4C2 : PySem.W.kitOne K (.ref C2) (.ref C4) = some false)
    (k5C2 : PySem.W.kitOne K (.ref C2) (.ref C5) = some false)
    (k6C2 : PySem.W.kitOne K (.ref C2) (.type "ValueError") = some true)
    (yz_ValueError : PySem.W.nsIn K mainGlobals "ValueError" = some none)
    (yz_enumerate : PySem.W.nsIn K mainGlobals "enumerate" = some none)
    (yz_isinstance : PySem.W.nsIn K mainGlobals "isinstance" = some none)
    (yz_len : PySem.W.nsIn K mainGlobals "len" = some none)
    (yz_list : PySem.W.nsIn K mainGlobals "list" = some none)
    (yz_max : PySem.W.nsIn K mainGlobals "max" = some none)
    (yz_min : PySem.W.nsIn K mainGlobals "min" = some none)
    (yz_range : PySem.W.nsIn K mainGlobals "range" = some none)
    : ∃ fd : FuncData, (∀ (s : Shared) (v : Value), BindsTo s fd ⟨[v], []⟩ [("script", v)]) ∧ ∀ base : Heap, K.In base → base.Ns mainGlobals mg → FnOk l.prog w K mg base CX0 10 fa fd ["script"] (sp_law K) := by
  have D_law_cell_at : Def K mg "_law_cell_at" s_law_cell_at := Def.mk' X G a0 l0 c0 k0
  have D_check_fraction : Def K mg "check_fraction" s_check_fraction := Def.mk' X G a1 l1 c1 k1
  have D_check_has_ways : Def K mg "check_has_ways" s_check_has_ways := Def.mk' X G a2 l2 c2 k2
  have D_only_share : Def K mg "only_share" s_only_share := Def.mk' X G a3 l3 c3 k3
  have D_ways_above : Def K mg "ways_above" s_ways_above := Def.mk' X G a4 l4 c4 k4
  have D_all_ways : Def K mg "all_ways" s_all_ways := Def.mk' X G a5 l5 c5 k5
  have D_fewest : Def K mg "fewest" s_fewest := Def.mk' X G a6 l6 c6 k6
  have D_common_divisor : Def K mg "common_divisor" s_common_divisor := Def.mk' X G a7 l7 c7 k7
  have D_lowest : Def K mg "lowest" s_lowest := Def.mk' X G a8 l8 c8 k8
  have D_divisors : Def K mg "divisors" s_divisors := Def.mk' X G a9 l9 c9 k9
  have D_least_counts : Def K mg "least_counts" s_least_counts := Def.mk' X G a10 l10 c10 k10
  have D_parts : Def K mg "parts" s_parts := Def.mk' X G a11 l11 c11 k11
  have D_goes_by : Def K mg "goes_by" s_goes_by := Def.mk' X G a12 l12 c12 k12
  have D_least_reaching_one : Def K mg "least_reaching_one" s_least_reaching_one := Def.mk' X G a13 l13 c13 k13
  have D_rising_factors : Def K mg "rising_factors" s_rising_factors := Def.mk' X G a14 l14 c14 k14
  have D_rising : Def K mg "rising" s_rising := Def.mk' X G a15 l15 c15 k15
  have D_check_figures : Def K mg "check_figures" s_check_figures := Def.mk' X G a16 l16 c16 k16
  have D_greatest_first : Def K mg "greatest_first" s_greatest_first := Def.mk' X G a17 l17 c17 k17
  have D_rises : Def K mg "rises" s_rises := Def.mk' X G a18 l18 c18 k18
  have D_joined : Def K mg "joined" s_joined := Def.mk' X G a19 l19 c19 k19
  have D_sum_of : Def K mg "sum_of" s_sum_of := Def.mk' X G a20 l20 c20 k20
  have D_is_way : Def K mg "is_way" s_is_way := Def.mk' X G a21 l21 c21 k21
  have D_law_call : Def K mg "_law_call" s_law_call := Def.mk' X G a22 l22 c22 k22
  have D_law_kind : Def K mg "_law_kind" s_law_kind := Def.mk' X G a23 l23 c23 k23
  have D_law_kinds : Def K mg "_law_kinds" s_law_kinds := Def.mk' X G a24 l24 c24 k24
  have D_law : Def K mg "law" s_law := Def.mk' X G a25 l25 c25 k25
  have z_ValueError := PySem.W.mg_none_of X G yz_ValueError
  have z_enumerate := PySem.W.mg_none_of X G yz_enumerate
  have z_isinstance := PySem.W.mg_none_of X G yz_isinstance
  have z_len := PySem.W.mg_none_of X G yz_len
  have z_list := PySem.W.mg_none_of X G yz_list
  have z_max := PySem.W.mg_none_of X G yz_max
  have z_min := PySem.W.mg_none_of X G yz_min
  have z_range := PySem.W.mg_none_of X G yz_range
  have m_ShareError := PySem.W.mg_of X G aaCS
  have m_NoFraction := PySem.W.mg_of X G aaC1
  have m_NotBelow := PySem.W.mg_of X G aaC2
  have m_TooGreat := PySem.W.mg_of X G aaC3
  have m_BadText := PySem.W.mg_of X G aaC4
  have m_NotRising := PySem.W.mg_of X G aaC5
  have x_NoFraction := xC1
  have R_NoFraction : Raised K CS C1 C2 C3 C4 C5 C1 true false false false false := ⟨⟨xC1, gaC1, gxC1, faC1, fgg, ftt, moC1, mbC1⟩, exm_own xCS sBE suC1, k1C1, k2C1, k3C1, k4C1, k5C1, k6C1⟩
  have x_NotBelow := xC2
  have R_NotBelow : Raised K CS C1 C2 C3 C4 C5 C2 false true false false false := ⟨⟨xC2, gaC2, gxC2, faC2, fgg, ftt, moC2, mbC2⟩, exm_own xCS sBE suC2, k1C2, k2C2, k3C2, k4C2, k5C2, k6C2⟩
  have e := hfa.symm.trans (PySem.W.mg_of X G a25)
  cases e
  refine ⟨PySem.W.fnOf "law" "law" (defArgs s_law) (defBody s_law) (defScope s_law) .none kV25 dc25 pm25 an25 cd25 ct25, fun s v => .of_eq rfl, fun base _ _ => ?_⟩
  have c_law_cell_at := cal_law_cell_at (P := l.prog) (w := w) (K := K) (mg := mg) (base := base) D_law_cell_at z_len
  have c_check_fraction := cal_check_fraction (P := l.prog) (w := w) (K := K) (mg := mg) (base := base) D_check_fraction
  have e_check_fraction := calE_check_fraction (P := l.prog) (w := w) (K := K) (mg := mg) (base := base) D_check_fraction m_NoFraction x_NoFraction
  have c_check_has_ways := cal_check_has_ways (P := l.prog) (w := w) (K := K) (mg := mg) (base := base) D_check_has_ways c_check_fraction
  have e_check_has_ways := calE_check_has_ways (P := l.prog) (w := w) (K := K) (mg := mg) (base := base) D_check_has_ways m_NotBelow x_NotBelow e_check_fraction
  have c_only_share := cal_only_share (P := l.prog) (w := w) (K := K) (mg := mg) (base := base) D_only_share
  have c_ways_above := cal_ways_above (P := l.prog) (w := w) (K := K) (mg := mg) (base := base) D_ways_above z_max z_min z_range c_only_share
  have c_all_ways := cal_all_ways (P := l.prog) (w := w) (K := K) (mg := mg) (base := base) D_all_ways z_range c_check_has_ways c_ways_above
  have e_all_ways := calE_all_ways (P := l.prog) (w := w) (K := K) (mg := mg) (base := base) D_all_ways e_check_has_ways c_all_ways
  have c_fewest := cal_fewest (P := l.prog) (w := w) (K := K) (mg := mg) (base := base) D_fewest z_len c_all_ways
  have e_fewest := calE_fewest (P := l.prog) (w := w) (K := K) (mg := mg) (base := base) D_fewest e_all_ways c_fewest
  have c_common_divisor := cal_common_divisor (P := l.prog) (w := w) (K := K) (mg := mg) (base := base) D_common_divisor
  have c_lowest := cal_lowest (P := l.prog) (w := w) (K := K) (mg := mg) (base := base) D_lowest c_check_fraction c_common_divisor
  have e_lowest := calE_lowest (P := l.prog) (w := w) (K := K) (mg := mg) (base := base) D_lowest e_check_fraction
  have c_divisors := cal_divisors (P := l.prog) (w := w) (K := K) (mg := mg) (base := base) D_divisors z_range
  have c_least_counts := cal_least_counts (P := l.prog) (w := w) (K := K) (mg := mg) (base := base) D_least_counts z_enumerate z_list
  have c_parts := cal_parts (P := l.prog) (w := w) (K := K) (mg := mg) (base := base) D_parts z_range z_len c_divisors c_least_counts
  have c_goes_by := cal_goes_by (P := l.prog) (w := w) (K := K) (mg := mg) (base := base) D_goes_by z_range z_min c_check_has_ways c_lowest c_parts
  have e_goes_by := calE_goes_by (P := l.prog) (w := w) (K := K) (mg := mg) (base := base) D_goes_by e_check_has_ways c_goes_by
  have c_least_reaching_one := cal_least_reaching_one (P := l.prog) (w := w) (K := K) (mg := mg) (base := base) D_least_reaching_one
  have c_rising_factors := cal_rising_factors (P := l.prog) (w := w) (K := K) (mg := mg) (base := base) D_rising_factors c_check_has_ways c_least_reaching_one
  have e_rising_factors := calE_rising_factors (P := l.prog) (w := w) (K := K) (mg := mg) (base := base) D_rising_factors e_check_has_ways c_rising_factors
  have c_rising := cal_rising (P := l.prog) (w := w) (K := K) (mg := mg) (base := base) D_rising c_rising_factors
  have e_rising := calE_rising (P := l.prog) (w := w) (K := K) (mg := mg) (base := base) D_rising e_rising_factors c_rising
  have c_check_figures := cal_check_figures (P := l.prog) (w := w) (K := K) (mg := mg) (base := base) D_check_figures
  have c_greatest_first := cal_greatest_first (P := l.prog) (w := w) (K := K) (mg := mg) (base := base) D_greatest_first c_check_has_ways c_least_reaching_one c_check_figures
  have e_greatest_first := calE_greatest_first (P := l.prog) (w := w) (K := K) (mg := mg) (base := base) D_greatest_first e_check_has_ways c_greatest_first
  have c_rises := cal_rises (P := l.prog) (w := w) (K := K) (mg := mg) (base := base) D_rises z_len z_range
  have c_joined := cal_joined (P := l.prog) (w := w) (K := K) (mg := mg) (base := base) D_joined c_common_divisor
  have c_sum_of := cal_sum_of (P := l.prog) (w := w) (K := K) (mg := mg) (base := base) D_sum_of c_joined
  have c_is_way := cal_is_way (P := l.prog) (w := w) (K := K) (mg := mg) (base := base) D_is_way c_lowest c_rises c_sum_of
  have e_is_way := calE_is_way (P := l.prog) (w := w) (K := K) (mg := mg) (base := base) D_is_way e_lowest c_is_way
  have c_law_call := cal_law_call (P := l.prog) (w := w) (K := K) (mg := mg) (base := base) D_law_call e_all_ways e_fewest e_goes_by e_rising_factors e_rising e_greatest_first e_is_way
  have c_law_kind := cal_law_kind (P := l.prog) (w := w) (K := K) (mg := mg) (base := base) D_law_kind m_ShareError m_NoFraction m_NotBelow m_TooGreat m_BadText m_NotRising z_isinstance z_ValueError
  have c_law_kinds := cal_law_kinds (P := l.prog) (w := w) (K := K) (mg := mg) (base := base) D_law_kinds m_ShareError R_NoFraction R_NotBelow c_law_call c_law_kind
  have C := ok_law (P := l.prog) (w := w) (K := K) (mg := mg) (base := base) D_law c_law_cell_at c_law_kinds
  exact Cal.law C (PySem.W.mg_of X G a25) l25
theorem walk {l : PySem.W.OpenLaw} {q : Program} {loose : List Str} {XP : (Str → Option Value) → Heap → Prop} {YP : World → Heap → Prop} {d : DefRec} {K : Params → PySem.W.Frag} (hn : l.most = some 63) (hdf : d.params.defaults = [])
    (hY : ∀ (w : World) (h : Heap), YP w h → (K w.params).In h)
    (F : ∀ (w : World) (mg : Str → Option Value) (fa : Addr) (h : Heap), (K w.params).In h → h.Ns mainGlobals mg → mg d.name = some (.ref fa) →
      ∃ fd : FuncData, (∀ (s : Shared) (u : Value), BindsTo s fd ⟨[u], []⟩ [("script", u)]) ∧ ∀ base : Heap, (K w.params).In base → base.Ns mainGlobals mg → FnOk l.prog w (K w.params) mg base CX0 10 fa fd ["script"] (sp_law (K w.params))) :
    PySem.W.WalkO q loose XP YP l.row.toRowW d [] (fun f vs => PySem.call f vs) :=
  L2.walk_of (n := 63) (k := 10) (x := "script") (CX := fun _ => CX0) (sp := fun w => sp_law (K w.params)) hn (by decide) hdf ⟨rfl, by decide, by decide⟩ hY F (fun _ _ a ns hl _ hS => ⟨a, ns, rfl, hS, hl, fun _ => rfl⟩) fun _ _ _ _ _ z => z
end Law
open PySem PySem.W PyProof.Rows
set_option maxRecDepth 100000 in
set_option maxHeartbeats 0 in
theorem PySem.Challenge.cw_unitshares_k03_no_ways_holds : PySem.Challenge.rw_unitshares_k03_no_ways.Holds := by
  w_on; o_law; k_head; (case hw => w_witness2)
  k_fill
  refine Law.walk (l := PySem.Challenge.rw_unitshares_k03_no_ways) rfl rfl (fun w h Y => PySem.W.kIn_of Y) ?F
  case F =>
    intro w mg fa h KX G hmg
    refine' Law.all_mk KX G hmg ?a0 ?l0 ?c0 ?k0 ?a1 ?l1 ?c1 ?k1 ?a2 ?l2 ?c2 ?k2 ?a3 ?l3 ?c3 ?k3 ?a4 ?l4 ?c4 ?k4 ?a5 ?l5 ?c5 ?k5 ?a6 ?l6 ?c6 ?k6 ?a7 ?l7 ?c7 ?k7 ?a8 ?l8 ?c8 ?k8 ?a9 ?l9 ?c9 ?k9 ?a10 ?l10 ?c10 ?k10 ?a11 ?l11 ?c11 ?k11 ?a12 ?l12 ?c12 ?k12 ?a13 ?l13 ?c13 ?k13 ?a14 ?l14 ?c14 ?k14 ?a15 ?l15 ?c15 ?k15 ?a16 ?l16 ?c16 ?k16 ?a17 ?l17 ?c17 ?k17 ?a18 ?l18 ?c18 ?k18 ?a19 ?l19 ?c19 ?k19 ?a20 ?l20 ?c20 ?k20 ?a21 ?l21 ?c21 ?k21 ?a22 ?l22 ?c22 ?k22 ?a23 ?l23 ?c23 ?k23 ?a24 ?l24 ?c24 ?k24 ?a25 ?l25 ?c25 ?k25 ?aaCS ?aaC1 ?aaC2 ?aaC3 ?aaC4 ?aaC5 ?xCS ?sBE ?fgg ?ftt ?xC1 ?gaC1 ?gxC1 ?faC1 ?moC1 ?mbC1 ?suC1 ?k1C1 ?k2C1 ?k3C1 ?k4C1 ?k5C1 ?k6C1 ?xC2 ?gaC2 ?gxC2 ?faC2 ?moC2 ?mbC2 ?suC2 ?k1C2 ?k2C2 ?k3C2 ?k4C2 ?k5C2 ?k6C2 ?yz_ValueError ?yz_enumerate ?yz_isinstance ?yz_len ?yz_list ?yz_max ?yz_min ?yz_range
    (case a0 => k_is); (case l0 => k_is); (case c0 => k_is); (case k0 => k_is)
    (case a1 => k_is); (case l1 => k_is); (case c1 => k_is); (case k1 => k_is)
    (case a2 => k_is); (case l2 => k_is); (case c2 => k_is); (case k2 => k_is)
    (case a3 => k_is); (case l3 => k_is); (case c3 => k_is); (case k3 => k_is)
    (case a4 => k_is); (case l4 => k_is); (case c4 => k_is); (case k4 => k_is)
    (case a5 => k_is); (case l5 => k_is); (case c5 => k_is); (case k5 => k_is)
    (case a6 => k_is); (case l6 => k_is); (case c6 => k_is); (case k6 => k_is)
    (case a7 => k_is); (case l7 => k_is); (case c7 => k_is); (case k7 => k_is)
    (case a8 => k_is); (case l8 => k_is); (case c8 => k_is); (case k8 => k_is)
    (case a9 => k_is); (case l9 => k_is); (case c9 => k_is); (case k9 => k_is)
    (case a10 => k_is); (case l10 => k_is); (case c10 => k_is); (case k10 => k_is)
    (case a11 => k_is); (case l11 => k_is); (case c11 => k_is); (case k11 => k_is)
    (case a12 => k_is); (case l12 => k_is); (case c12 => k_is); (case k12 => k_is)
    (case a13 => k_is); (case l13 => k_is); (case c13 => k_is); (case k13 => k_is)
    (case a14 => k_is); (case l14 => k_is); (case c14 => k_is); (case k14 => k_is)
    (case a15 => k_is); (case l15 => k_is); (case c15 => k_is); (case k15 => k_is)
    (case a16 => k_is); (case l16 => k_is); (case c16 => k_is); (case k16 => k_is)
    (case a17 => k_is); (case l17 => k_is); (case c17 => k_is); (case k17 => k_is)
    (case a18 => k_is); (case l18 => k_is); (case c18 => k_is); (case k18 => k_is)
    (case a19 => k_is); (case l19 => k_is); (case c19 => k_is); (case k19 => k_is)
    (case a20 => k_is); (case l20 => k_is); (case c20 => k_is); (case k20 => k_is)
    (case a21 => k_is); (case l21 => k_is); (case c21 => k_is); (case k21 => k_is)
    (case a22 => k_is); (case l22 => k_is); (case c22 => k_is); (case k22 => k_is)
    (case a23 => k_is); (case l23 => k_is); (case c23 => k_is); (case k23 => k_is)
    (case a24 => k_is); (case l24 => k_is); (case c24 => k_is); (case k24 => k_is)
    (case a25 => k_is); (case l25 => k_is); (case c25 => k_is); (case k25 => k_is)
    (case aaCS => k_is)
    (case aaC1 => k_is)
    (case aaC2 => k_is)
    (case aaC3 => k_is)
    (case aaC4 => k_is)
    (case aaC5 => k_is)
    (case xCS => k_exc)
    (case sBE => k_is)
    (case fgg => k_is)
    (case ftt => k_is)
    (case xC1 => k_exc)
    (case gaC1 => k_is)
    (case gxC1 => k_is)
    (case faC1 => k_is)
    (case moC1 => k_is)
    (case mbC1 => k_is)
    (case suC1 => k_is)
    (case k1C1 => kit_is)
    (case k2C1 => kit_is)
    (case k3C1 => kit_is)
    (case k4C1 => kit_is)
    (case k5C1 => kit_is)
    (case k6C1 => kit_is)
    (case xC2 => k_exc)
    (case gaC2 => k_is)
    (case gxC2 => k_is)
    (case faC2 => k_is)
    (case moC2 => k_is)
    (case mbC2 => k_is)
    (case suC2 => k_is)
    (case k1C2 => kit_is)
    (case k2C2 => kit_is)
    (case k3C2 => kit_is)
    (case k4C2 => kit_is)
    (case k5C2 => kit_is)
    (case k6C2 => kit_is)
    (case yz_ValueError => k_is)
    (case yz_enumerate => k_is)
    (case yz_isinstance => k_is)
    (case yz_len => k_is)
    (case yz_list => k_is)
    (case yz_max => k_is)
    (case yz_min => k_is)
    (case yz_range => k_is)
