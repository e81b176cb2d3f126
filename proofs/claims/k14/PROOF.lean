import PyProof.Rows.All
import Wide.All
import OpenK.AllK
import Wide.FinOn
import Lean
import PyProof.EqAt
import PyProof.EqKinds
import PyProof.TupleCall
import PySem.Challenge.RW_unitshares_k14_read
set_option Elab.async false
set_option linter.all false
set_option maxRecDepth 100000
/-! THE HAND LAYER, for ints, bools, texts, own classes, LISTS and tuples (index, slices, in, append, pop ..), calls, loops. Paste it whole ahead of your own text; what your proof does not reach may be deleted. -/
namespace L2
open PySem PySem.Spec PyProof.Rows

/-- a key: an int or a str -/
abbrev Key := Sum Int Str
def keyIs : Key → Value → Bool
  | .inl k, v => Value.isInt k v
  | .inr x, v => Value.isStrOf x v
def keyH (w : World) : Key → Int
  | .inl k => hashInt k
  | .inr x => hashStr w x
theorem keyIs_shape : ∀ {k : Key} {v : Value}, keyIs k v = true → (∃ i t, k = Sum.inl i ∧ v = Value.int i t) ∨ (∃ x t, k = Sum.inr x ∧ v = Value.str x t)
  | .inl i, v, h => by
    obtain ⟨t, e⟩ := Value.isInt_shape (k := i) (v := v) h
    exact .inl ⟨i, t, rfl, e⟩
  | .inr x, v, h => by
    obtain ⟨t, e⟩ := Value.isStrOf_shape (x := x) (v := v) h
    exact .inr ⟨x, t, rfl, e⟩
theorem keyIs_int (i : Int) (t : Tok) : keyIs (.inl i) (.int i t) = true := by simp [keyIs, Value.isInt]
theorem keyIs_str (x : Str) (t : Tok) : keyIs (.inr x) (.str x t) = true := by simp [keyIs, Value.isStrOf]
theorem key_ll (a b : Int) : decide ((Sum.inl a : Key) = Sum.inl b) = (a == b) := by
  by_cases e : a = b
  · subst e; simp
  · have h : ¬ (Sum.inl a : Key) = Sum.inl b := fun q => e (Sum.inl.inj q)
    rw [decide_eq_false h]
    exact (beq_eq_false_iff_ne.mpr e).symm
theorem key_rr (a b : Str) : decide ((Sum.inr a : Key) = Sum.inr b) = decide (a = b) := by
  by_cases e : a = b
  · subst e; simp
  · have h : ¬ (Sum.inr a : Key) = Sum.inr b := fun q => e (Sum.inr.inj q)
    rw [decide_eq_false h, decide_eq_false e]
theorem key_lr (a : Int) (b : Str) : decide ((Sum.inl a : Key) = Sum.inr b) = false := decide_eq_false (fun q => nomatch q)
theorem key_rl (a : Str) (b : Int) : decide ((Sum.inr a : Key) = Sum.inl b) = false := decide_eq_false (fun q => nomatch q)

def mixKind (prog : Program) (w : World) : PySem.KeyKind prog w Key where
  is := keyIs
  hash := keyH w
  inj := fun v a b ha hb => by
    rcases keyIs_shape ha with ⟨i, t, rfl, rfl⟩ | ⟨x, t, rfl, rfl⟩
    · rcases keyIs_shape hb with ⟨j, u, rfl, e⟩ | ⟨y, u, rfl, e⟩
      · injection e with e1 _; rw [e1]
      · exact nomatch e
    · rcases keyIs_shape hb with ⟨j, u, rfl, e⟩ | ⟨y, u, rfl, e⟩
      · exact nomatch e
      · injection e with e1 _; rw [e1]
  byValue := fun k v h => by
    rcases keyIs_shape h with ⟨i, t, rfl, rfl⟩ | ⟨x, t, rfl, rfl⟩ <;> rfl
  pyHash := fun hv h => by
    rcases keyIs_shape hv with ⟨i, t, rfl, rfl⟩ | ⟨x, t, rfl, rfl⟩
    · exact wpAny_pyHash_int h
    · exact wpAny_pyHash_str h
  eqBool := fun hu hv h => by
    rcases keyIs_shape hu with ⟨i, t, rfl, rfl⟩ | ⟨x, t, rfl, rfl⟩
    · rcases keyIs_shape hv with ⟨j, u, rfl, rfl⟩ | ⟨y, u, rfl, rfl⟩
      · rw [key_ll] at h; exact wpAny_eqBool_int h
      · rw [key_lr] at h; exact SeqAt.EqAt.int_str i t y u _ _ _ _ h
    · rcases keyIs_shape hv with ⟨j, u, rfl, rfl⟩ | ⟨y, u, rfl, rfl⟩
      · rw [key_rl] at h; exact SeqAt.EqAt.str_int x t j u _ _ _ _ h
      · rw [key_rr] at h; exact wpAny_eqBool_str h
  «strs» := fun k x t v h => by
    rcases keyIs_shape h with ⟨i, u, rfl, e⟩ | ⟨y, u, rfl, e⟩
    · exact nomatch e
    · injection e with e1 _
      subst e1
      cases v <;> rfl

theorem mixKind_is (prog : Program) (w : World) (k : Key) (v : Value) : (mixKind prog w).is k v = keyIs k v := rfl
theorem mixKind_int (prog : Program) (w : World) (i : Int) (t : Tok) : (mixKind prog w).is (.inl i) (.int i t) = true := keyIs_int i t
theorem mixKind_str (prog : Program) (w : World) (x : Str) (t : Tok) : (mixKind prog w).is (.inr x) (.str x t) = true := keyIs_str x t
end L2

namespace L2
open PySem PySem.Spec PyProof.Rows

/-- a value, without the heap -/
inductive V where
  | non | bl (b : Bool) | int (i : Int) | str (x : Str) | byt (b : Array UInt8) | flt (b : UInt64) | ref (a : Addr) | ty (n : String)
  deriving DecidableEq

def RelV : V → Value → Prop
  | .non, u => u = Value.none
  | .bl b, u => u = Value.bool b
  | .int i, u => ∃ t, u = Value.int i t
  | .str x, u => ∃ t, u = Value.str x t
  | .byt b, u => ∃ t, u = Value.bytes b t
  | .flt b, u => ∃ t, u = Value.float b t
  | .ref a, u => u = Value.ref a
  | .ty n, u => u = Value.type n

abbrev Vals : List V → List Value → Prop := Paired RelV
theorem Vals.length {xs : List V} {us : List Value} (r : Vals xs us) : xs.length = us.length := Paired.length r
theorem Vals.get : ∀ {xs : List V} {us : List Value} {i : Nat} {x : V}, Vals xs us → xs[i]? = some x → ∃ u, us[i]? = some u ∧ RelV x u
  | _, _, _, _, .nil, e => by simp at e
  | _, _, 0, _, .cons r _, e => by simp at e; subst e; exact ⟨_, rfl, r⟩
  | _, _, i + 1, x, .cons _ t, e => by
    obtain ⟨u, h1, h2⟩ := Vals.get (i := i) (x := x) t (by simpa using e)
    exact ⟨u, by simpa using h1, h2⟩
theorem Vals.set {x : V} {u : Value} (r : RelV x u) : ∀ {xs : List V} {us : List Value} (i : Nat), Vals xs us → Vals (xs.set i x) (us.set i u)
  | _, _, _, .nil => .nil
  | _, _, 0, .cons _ t => .cons r t
  | _, _, i + 1, .cons q t => .cons q (Vals.set r i t)
theorem Vals.append : ∀ {xs ys : List V} {us ws : List Value}, Vals xs us → Vals ys ws → Vals (xs ++ ys) (us ++ ws)
  | _, _, _, _, .nil, s => s
  | _, _, _, _, .cons r t, s => .cons r (Vals.append t s)
theorem Vals.take : ∀ {xs : List V} {us : List Value} (n : Nat), Vals xs us → Vals (xs.take n) (us.take n)
  | _, _, 0, _ => .nil
  | _, _, _ + 1, .nil => .nil
  | _, _, n + 1, .cons r t => .cons r (Vals.take n t)
theorem Vals.drop : ∀ {xs : List V} {us : List Value} (n : Nat), Vals xs us → Vals (xs.drop n) (us.drop n)
  | _, _, 0, r => r
  | _, _, _ + 1, .nil => .nil
  | _, _, n + 1, .cons _ t => Vals.drop n t
theorem Vals.none_of : ∀ {xs : List V} {us : List Value} {i : Nat}, Vals xs us → xs[i]? = none → us[i]? = none := fun {xs us i} r e => by
  have h1 := r.length
  have h2 : xs.length ≤ i := List.getElem?_eq_none_iff.mp e
  exact List.getElem?_eq_none_iff.mpr (by omega)

def RelO : Option V → Option Value → Prop
  | some v, some u => RelV v u
  | none, none => True
  | _, _ => False
def KV {κ : Type} : List (κ × V) → List (κ × Value) → Prop := Paired fun (p : κ × V) (q : κ × Value) => p.1 = q.1 ∧ RelV p.2 q.2

/-- a key of a dict (00_mix): an int or a text -/
def kV : Key → V
  | .inl i => .int i
  | .inr x => .str x

/-- what stands at a tracked address -/
inductive HO where
  /-- a list -/
  | lst (xs : List V)
  /-- a tuple (never changes) -/
  | tup (xs : List V)
  /-- a dict whose keys are ints and texts; one whose keys are tuples of ints and texts (the empty one is both) -/
  | dK (kvs : List (Key × V)) | dT (kvs : List (List Key × V))
  /-- a set of ints: its members, its size -/
  | set (S : Int → Bool) (n : Nat)
  /-- an instance of the class at C, its dict at dx, its attributes -/
  | ins (C dx : Addr) (fs : List (Str × V))
  /-- the dict of the instance at x -/
  | own (x : Addr)
  /-- the dict of an exception -/
  | xd (fs : List (Str × V))
  /-- a bound method, f of x -/
  | met (f x : Addr)
  /-- a range object lo, lo + 1, .. below hi -/
  | rng (lo hi : Int)
  /-- a thing that is known to the object (the script; a dict while a loop walks it): read, never written while it is so -/
  | frz (o : Obj) (u : HO)
  /-- a code object's table -/
  | tbl (ps : Array Value)
  /-- any other thing, by what is true of its one object (a def of one's own: SetO a S n := HO.ext fun h => ..) -/
  | ext (φ : Heap → Prop)

abbrev Hp := Addr → Option HO
def upd (H : Hp) (a : Addr) (o : HO) : Hp := fun b => if b = a then some o else H b
theorem upd_same {H : Hp} {a : Addr} {o : HO} : upd H a o a = some o := by unfold upd; rw [if_pos rfl]
theorem upd_ne {H : Hp} {a b : Addr} {o : HO} (h : b ≠ a) : upd H a o b = H b := by unfold upd; rw [if_neg h]
theorem upd_upd {H : Hp} {a : Addr} {o u : HO} : upd (upd H a o) a u = upd H a u := by
  funext b; unfold upd; split <;> rfl
/-- two objects of different content stand apart -/
theorem ne_of {H : Hp} {a b : Addr} {o u : HO} (h : H a = some o) (h' : H b = some u) (d : o ≠ u) : a ≠ b := by
  intro e; subst e; rw [h] at h'; exact d (Option.some.inj h')
theorem ne_of_none {H : Hp} {a b : Addr} {o : HO} (h : H a = some o) (h' : H b = none) : a ≠ b := by
  intro e; subst e; rw [h] at h'; cases h'

section
variable (P : Program) (w : World)
def ObjOk (H : Hp) (h : Heap) (a : Addr) : HO → Prop
  | .lst xs => xs.length ≤ sizeLine ∧ ∃ (its : List Value) (n : Nat), Vals xs its ∧ h.get? a = some { cls := .type "list", data := .seq its.toArray n }
  | .tup xs => xs.length ≤ sizeLine ∧ ∃ its : List Value, Vals xs its ∧ IsTup h a its.toArray
  | .dK kvs => kvs.length ≤ sizeLine ∧ (a == sysModules) = false ∧ ∃ vs, KV kvs vs ∧ h.DictOf (mixKind P w) a vs
  | .dT kvs => kvs.length ≤ sizeLine ∧ (a == sysModules) = false ∧ ∃ xs : List (List Key × Addr × Value),
      Paired (fun (p : List Key × V) (q : List Key × Addr × Value) => p.1 = q.1 ∧ H q.2.1 = some (.tup (p.1.map kV)) ∧ RelV p.2 q.2.2) kvs xs ∧
      ∃ o es ep, h.get? a = some o ∧ o.ExactDict ∧ o.data = .dict es ep ∧ es.toList = xs.map (entryOfKey (tupleKind (mixKind P w))) ∧ (xs.map (·.1)).Nodup
  | .set S n => h.SetOf (intKind P w) a S n
  | .ins C dx fs => H dx = some (.own a) ∧ fs.length ≤ 1000 ∧ dx ≠ a ∧ h.get? a = some (PySem.W.instObj C dx) ∧
      ∃ mA, h.Ns1 dx mA ∧ (∀ f, RelO (fs.lookup f) (mA f)) ∧ PySem.Within mA (fs.map (·.1))
  | .own _ => ∃ o, h.get? a = some o
  | .xd fs => ∃ mA, h.Ns1 a mA ∧ ∀ f, RelO (fs.lookup f) (mA f)
  | .rng lo hi => ∃ t u v, h.get? a = some { cls := .type "range", data := .fields #[.int lo t, .int hi u, .int 1 v] }
  | .frz o u => h.get? a = some o ∧ ObjOk H h a u
  | .tbl ps => h.get? a = some { cls := .none, data := .fields ps }
  | .met f x => h.get? a = some (PySem.W.methodObj (.ref f) (.ref x))
  | .ext φ => φ h ∧ (∃ o, h.get? a = some o) ∧ ∀ h1 h2 : Heap, φ h1 → (∀ o, h1.get? a = some o → h2.get? a = some o) → φ h2
/-- the abstract heap is held -/
def HOk (H : Hp) (h : Heap) : Prop := ∀ a o, H a = some o → ObjOk P w H h a o
end

section
variable {P : Program} {w : World} {H H' : Hp} {h h' : Heap} {a : Addr} {o : HO}
theorem ObjOk.lt (x : ObjOk P w H h a o) : a < h.objs.size := by
  cases o with
  | lst xs => obtain ⟨_, _, _, _, e⟩ := x; exact Heap.lt_size e
  | tup xs => obtain ⟨_, _, _, p⟩ := x; exact p.lt
  | dK kvs => obtain ⟨_, _, _, _, o, _, _, e, _⟩ := x; exact Heap.lt_size e
  | dT kvs => obtain ⟨_, _, _, _, o, _, _, e, _⟩ := x; exact Heap.lt_size e
  | set S n => obtain ⟨o, _, _, _, e, _⟩ := x; exact Heap.lt_size e
  | ins C dx fs => obtain ⟨_, _, _, e, _⟩ := x; exact Heap.lt_size e
  | own y => obtain ⟨_, e⟩ := x; exact Heap.lt_size e
  | xd fs => obtain ⟨_, ⟨_, _, _, e, _⟩, _⟩ := x; exact Heap.lt_size e
  | rng lo hi => obtain ⟨_, _, _, e⟩ := x; exact Heap.lt_size e
  | frz ob u => obtain ⟨e, _⟩ := x; exact Heap.lt_size e
  | tbl ps => exact Heap.lt_size (show h.get? a = some _ from x)
  | met f y => exact Heap.lt_size (show h.get? a = some _ from x)
  | ext φ => obtain ⟨_, ⟨_, e⟩, _⟩ := x; exact Heap.lt_size e
theorem Paired.mapP {α β : Type} {F G : α → β → Prop} : ∀ {l₁ : List α} {l₂ : List β}, Paired F l₁ l₂ → (∀ a b, F a b → G a b) → Paired G l₁ l₂
  | _, _, .nil, _ => .nil
  | _, _, .cons r t, f => .cons (f _ _ r) (Paired.mapP t f)
theorem Paired.imp' {α β : Type} {F G : α → β → Prop} (f : ∀ a b, F a b → G a b) {l₁ : List α} {l₂ : List β} (r : Paired F l₁ l₂) : Paired G l₁ l₂ := Paired.mapP r f
/-- what an object's description leans on: its own object, its own dict, the tuples -/
theorem ObjOk.stay (x : ObjOk P w H h a o) (k : ∀ b u, (b = a ∨ H b = some (.own a)) → h.get? b = some u → h'.get? b = some u)
    (ho : ∀ b, H b = some (.own a) → H' b = some (.own a)) (ht : ∀ b xs, H b = some (.tup xs) → H' b = some (.tup xs)) : ObjOk P w H' h' a o := by
  induction o with
  | lst xs => obtain ⟨z, its, n, r, e⟩ := x; exact ⟨z, its, n, r, k _ _ (.inl rfl) e⟩
  | tup xs => obtain ⟨z, its, r, ob, e, c⟩ := x; exact ⟨z, its, r, ob, k _ _ (.inl rfl) e, c⟩
  | dK kvs => obtain ⟨z, y, vs, r, ob, es, ep, e, c⟩ := x; exact ⟨z, y, vs, r, ob, es, ep, k _ _ (.inl rfl) e, c⟩
  | dT kvs =>
    obtain ⟨z, y, xs, r, ob, es, ep, e, c⟩ := x
    exact ⟨z, y, xs, Paired.mapP r fun p q z => ⟨z.1, ht _ _ z.2.1, z.2.2⟩, ob, es, ep, k _ _ (.inl rfl) e, c⟩
  | set S n => obtain ⟨ob, es, ep, t, e, c⟩ := x; exact ⟨ob, es, ep, t, k _ _ (.inl rfl) e, c⟩
  | ins C dx fs =>
    obtain ⟨d, z, ne, e, mA, ⟨od, es, ep, e2, c⟩, r⟩ := x
    exact ⟨ho _ d, z, ne, k _ _ (.inl rfl) e, mA, ⟨od, es, ep, k _ _ (.inr d) e2, c⟩, r⟩
  | own y => obtain ⟨ob, e⟩ := x; exact ⟨ob, k _ _ (.inl rfl) e⟩
  | xd fs => obtain ⟨mA, ⟨od, es, ep, e, c⟩, r⟩ := x; exact ⟨mA, ⟨od, es, ep, k _ _ (.inl rfl) e, c⟩, r⟩
  | rng lo hi => obtain ⟨t, u, v, e⟩ := x; exact ⟨t, u, v, k _ _ (.inl rfl) e⟩
  | frz ob u ih => obtain ⟨e, q⟩ := x; exact ⟨k _ _ (.inl rfl) e, ih q⟩
  | tbl ps =>
    have e : h.get? a = some { cls := .none, data := .fields ps } := x
    show h'.get? a = some { cls := .none, data := .fields ps }
    exact k a _ (.inl rfl) e
  | met f y =>
    have e : h.get? a = some (PySem.W.methodObj (.ref f) (.ref y)) := x
    show h'.get? a = some (PySem.W.methodObj (.ref f) (.ref y))
    exact k a _ (.inl rfl) e
  | ext φ => obtain ⟨p, ⟨o, e⟩, st⟩ := x; exact ⟨st _ _ p fun o q => k _ _ (.inl rfl) q, ⟨o, k _ _ (.inl rfl) e⟩, st⟩
theorem HOk.lt (x : HOk P w H h) (e : H a = some o) : a < h.objs.size := (x a o e).lt
theorem HOk.fresh (x : HOk P w H h) (e : h.objs.size ≤ a) : H a = none := by
  cases q : H a with
  | none => rfl
  | some u => exact absurd (Nat.lt_of_lt_of_le (x.lt q) e) (Nat.lt_irrefl _)
/-- every object of the heap is kept -/
theorem HOk.kept (x : HOk P w H h) (k : ∀ b u, h.get? b = some u → h'.get? b = some u) : HOk P w H h' := fun a o e =>
  (x a o e).stay (fun b u _ q => k b u q) (fun _ q => q) fun _ _ q => q
/-- a new object is laid and tracked -/
theorem HOk.laid (x : HOk P w H h) (k : ∀ b u, h.get? b = some u → h'.get? b = some u) (hp : h.objs.size ≤ a) (new : ObjOk P w (upd H a o) h' a o) : HOk P w (upd H a o) h' := fun b u e => by
  have hn := x.fresh hp
  by_cases hb : b = a
  · subst hb; rw [upd_same] at e; cases e; exact new
  · rw [upd_ne hb] at e
    exact (x b u e).stay (fun c v _ q => k c v q) (fun c q => by rw [upd_ne (ne_of_none q hn)]; exact q) fun c xs q => by rw [upd_ne (ne_of_none q hn)]; exact q
end

/-- what may be read as u: it is u, or a known u -/
def Rd (H : Hp) (a : Addr) (u : HO) : Prop := H a = some u ∨ ∃ o, H a = some (.frz o u)
theorem Rd.of {H : Hp} {a : Addr} {u : HO} (h : H a = some u) : Rd H a u := .inl h
theorem Rd.ok {P : Program} {w : World} {H : Hp} {h : Heap} {a : Addr} {u : HO} (r : Rd H a u) (x : HOk P w H h) : ObjOk P w H h a u := by
  rcases r with r | ⟨o, r⟩
  · exact x a u r
  · obtain ⟨_, q⟩ := x a _ r
    exact q
/-- what may be written -/
def Mut : Option HO → Prop
  | some (.lst _) => True
  | some (.dK _) => True
  | some (.dT _) => True
  | some (.set _ _) => True
  | some (.ins _ _ _) => True
  | some (.ext _) => True
  | _ => False
section
variable {P : Program} {w : World} {H : Hp} {h h' : Heap} {x e : Addr} {o' : HO}
/-- the object at e is changed: x itself, or the dict of the instance x -/
theorem HOk.write (ok : HOk P w H h) (mu : Mut (H x)) (he : e = x ∨ H e = some (.own x)) (k : ∀ b u, b ≠ e → h.get? b = some u → h'.get? b = some u) (heo : ∃ u, h'.get? e = some u)
    (new : ObjOk P w (upd H x o') h' x o') : HOk P w (upd H x o') h' := fun b u q => by
  have nown : ∀ c y, H c = some (.own y) → c ≠ x := fun c y r z => by subst z; rw [r] at mu; exact mu
  have ntup : ∀ c xs, H c = some (.tup xs) → c ≠ x := fun c xs r z => by subst z; rw [r] at mu; exact mu
  by_cases hb : b = x
  · subst hb; rw [upd_same] at q; cases q; exact new
  · rw [upd_ne hb] at q
    by_cases hbe : b = e
    · have q' : H b = some (.own x) := by
        rcases he with z | z
        · exact absurd (hbe.trans z) hb
        · rw [hbe]; exact z
      rw [q] at q'; cases q'
      obtain ⟨v, hv⟩ := heo
      exact ⟨v, by rw [hbe]; exact hv⟩
    · refine (ok b u q).stay (fun c v hc r => k c v ?_ r) (fun c r => by rw [upd_ne (nown c b r)]; exact r) fun c xs r => by rw [upd_ne (ntup c xs r)]; exact r
      rcases hc with rfl | hc
      · exact hbe
      · rintro rfl
        rcases he with z | z
        · exact nown c b hc z
        · rw [hc] at z; cases z; exact hb rfl
end

/-! ### kept unless tracked; of the frames at fs (the callers') the slots may change (an exception that passes writes there); of the records at ex (iterators) nothing is said -/
structure Un (fs ex : List Addr) (H H' : Hp) (h h' : Heap) : Prop where
  keep : ∀ b o, h.get? b = some o → H b = none → b ∉ fs → b ∉ ex → h'.get? b = some o
  slot : ∀ b o, h.get? b = some o → H b = none → b ∈ fs → b ∉ ex → ∃ sl, h'.get? b = some { o with slots := sl }
  free : ∀ b o, h.get? b = some o → H b = none → b ∉ ex → H' b = none
  there : ∀ b o, h.get? b = some o → b ∉ ex → ∃ o', h'.get? b = some o'
  tups : ∀ b xs, H b = some (.tup xs) → H' b = some (.tup xs)
  frzs : ∀ b o u, H b = some (.frz o u) → H' b = some (.frz o u)
  tbls : ∀ b ps, H b = some (.tbl ps) → ∃ more, H' b = some (.tbl (ps ++ more))
section
variable {fs fs' ex ex' : List Addr} {H H1 H2 : Hp} {h h1 h2 h' : Heap} {a x e : Addr} {o : HO}
theorem Un.any (u : Un fs ex H H1 h h1) {b : Addr} {ob : Obj} (q : h.get? b = some ob) (n : H b = none) (hx : b ∉ ex) : ∃ sl, h1.get? b = some { ob with slots := sl } := by
  by_cases hb : b ∈ fs
  · exact u.slot b ob q n hb hx
  · exact ⟨ob.slots, u.keep b ob q n hb hx⟩
theorem Un.trans (a : Un fs ex H H1 h h1) (b : Un fs ex H1 H2 h1 h2) : Un fs ex H H2 h h2 where
  keep := fun c ob q n hc hx => b.keep c ob (a.keep c ob q n hc hx) (a.free c ob q n hx) hc hx
  slot := fun c ob q n hc hx => by
    obtain ⟨sl, e1⟩ := a.slot c ob q n hc hx
    obtain ⟨sl', e2⟩ := b.slot c _ e1 (a.free c ob q n hx) hc hx
    exact ⟨sl', e2⟩
  free := fun c ob q n hx => by
    obtain ⟨o', e1⟩ := a.there c ob q hx
    exact b.free c o' e1 (a.free c ob q n hx) hx
  there := fun c ob q hx => by
    obtain ⟨o', e1⟩ := a.there c ob q hx
    exact b.there c o' e1 hx
  tups := fun c xs q => b.tups c xs (a.tups c xs q)
  frzs := fun c ob xs q => b.frzs c ob xs (a.frzs c ob xs q)
  tbls := fun c ps q => by
    obtain ⟨m1, e1⟩ := a.tbls c ps q
    obtain ⟨m2, e2⟩ := b.tbls c _ e1
    exact ⟨m1 ++ m2, by rw [e2, Array.append_assoc]⟩
theorem Un.kept (k : ∀ b u, h.get? b = some u → h'.get? b = some u) : Un fs ex H H h h' :=
  ⟨fun b ob q _ _ _ => k b ob q, fun b ob q _ _ _ => ⟨ob.slots, k b ob q⟩, fun _ _ _ n _ => n, fun b ob q _ => ⟨ob, k b ob q⟩, fun _ _ q => q, fun _ _ _ q => q, fun _ ps q => ⟨#[], by rw [q]; simp⟩⟩
theorem Un.refl : Un fs ex H H h h := Un.kept fun _ _ q => q
theorem Un.laid (k : ∀ b u, h.get? b = some u → h'.get? b = some u) (hp : h.objs.size ≤ a) (hn : H a = none) : Un fs ex H (upd H a o) h h' where
  keep := fun b u q _ _ _ => k b u q
  slot := fun b u q _ _ _ => ⟨u.slots, k b u q⟩
  free := fun b u q n _ => by rw [upd_ne (Nat.ne_of_lt (Nat.lt_of_lt_of_le (Heap.lt_size q) hp))]; exact n
  there := fun b u q _ => ⟨u, k b u q⟩
  tups := fun b xs q => by rw [upd_ne (ne_of_none q hn)]; exact q
  frzs := fun b u xs q => by rw [upd_ne (ne_of_none q hn)]; exact q
  tbls := fun b ps q => ⟨#[], by rw [upd_ne (ne_of_none q hn), q]; simp⟩
theorem Un.write (mu : Mut (H x)) (he : e = x ∨ H e = some (.own x)) (k : ∀ b u, b ≠ e → h.get? b = some u → h'.get? b = some u) (heo : ∃ u, h'.get? e = some u) : Un fs ex H (upd H x o) h h' := by
  have hx : ∀ b, H b = none → b ≠ x := fun b n z => by subst z; rw [n] at mu; exact mu
  have hb : ∀ b, H b = none → b ≠ e := fun b n z => by
    subst z
    rcases he with r | r
    · exact hx b n r
    · rw [n] at r; cases r
  have hm : ∀ b u, H b = some u → ¬ Mut (some u) → b ≠ x := fun b u q nm z => by subst z; rw [q] at mu; exact nm mu
  refine ⟨fun b u q n _ _ => k b u (hb b n) q, fun b u q n _ _ => ⟨u.slots, k b u (hb b n) q⟩, fun b u q n _ => by rw [upd_ne (hx b n)]; exact n, fun b u q _ => ?_,
    fun b xs q => by rw [upd_ne (hm b _ q fun z => z)]; exact q, fun b u xs q => by rw [upd_ne (hm b _ q fun z => z)]; exact q, fun b ps q => ⟨#[], by rw [upd_ne (hm b _ q fun z => z), q]; simp⟩⟩
  by_cases hbe : b = e
  · subst hbe; exact heo
  · exact ⟨u, k b u hbe q⟩
theorem Un.mono (u : Un fs ex H H1 h h1) (hs : ∀ b ∈ fs, b ∈ fs') (hx : ∀ b ∈ ex, b ∈ ex') : Un fs' ex' H H1 h h1 :=
  ⟨fun b ob q n hb he => u.keep b ob q n (fun z => hb (hs b z)) fun z => he (hx b z), fun _ _ q n _ he => u.any q n fun z => he (hx _ z), fun b ob q n he => u.free b ob q n fun z => he (hx b z), fun b ob q he => u.there b ob q fun z => he (hx b z), u.tups, u.frzs, u.tbls⟩
end

/-! ### the heap without what is tracked -/
def trk (h : Heap) (H : Hp) : List Addr := (List.range h.objs.size).filter fun a => (H a).isSome
def hidT (h : Heap) (H : Hp) : Heap := PySem.W.hideAll h (trk h H)
theorem hidT_size (h : Heap) (H : Hp) : (hidT h H).objs.size = h.objs.size := PySem.W.hideAll_size _ _
theorem hidT_get {h : Heap} {H : Hp} {b : Addr} {o : Obj} (e : h.get? b = some o) (n : H b = none) : (hidT h H).get? b = some o :=
  PySem.W.hideAll_get _ e fun hm => by
    have q : (H b).isSome = true := (List.mem_filter.mp hm).2
    rw [n] at q; simp at q
theorem of_hidT {h : Heap} {H : Hp} {b : Addr} {o : Obj} (e : (hidT h H).get? b = some o) : h.get? b = some o ∧ H b = none := by
  have e' : h.get? b = some o := PySem.W.of_hideAll (trk h H) e
  refine ⟨e', ?_⟩
  cases q : H b with
  | none => rfl
  | some x =>
    have hm : b ∈ trk h H := List.mem_filter.mpr ⟨List.mem_range.mpr (Heap.lt_size e'), by simp [q]⟩
    have z : (hidT h H).get? b = none := PySem.W.hideAll_none (trk h H) hm
    rw [z] at e; cases e

/-! ### OpenK's ledger, filled with every new object but one -/
def allNews (g h : Heap) (L : Addr) : List (Addr × Obj) := (List.range h.objs.size).filterMap fun a => if a = L ∨ (g.get? a).isSome = true then none else (h.get? a).map fun o => (a, o)
theorem mem_allNews {g h : Heap} {L a : Addr} {o : Obj} (h1 : a ≠ L) (h2 : g.get? a = none) (h3 : h.get? a = some o) : (a, o) ∈ allNews g h L :=
  List.mem_filterMap.mpr ⟨a, List.mem_range.mpr (Heap.lt_size h3), by simp [h1, h2, h3]⟩
theorem of_mem_allNews {g h : Heap} {L : Addr} {p : Addr × Obj} (hp : p ∈ allNews g h L) : p.1 ≠ L ∧ g.get? p.1 = none ∧ h.get? p.1 = some p.2 := by
  obtain ⟨b, _, e⟩ := List.mem_filterMap.mp hp
  split at e
  · cases e
  · rename_i hn
    cases q : h.get? b with
    | none => rw [q] at e; simp at e
    | some u =>
      rw [q] at e
      simp only [Option.map_some, Option.some.injEq] at e
      subst e
      refine ⟨fun z => hn (.inl z), ?_, q⟩
      show g.get? b = none
      cases r : g.get? b with
      | none => rfl
      | some v => exact (hn (.inr (by simp [r]))).elim
def rest (g h : Heap) (L d : Addr) : List (Addr × Obj) := (allNews g h L).filter fun p => decide (p.1 ≠ d)
theorem rest_ne {g h : Heap} {L d : Addr} : ∀ p ∈ rest g h L d, p.1 ≠ d := fun p hp => of_decide_eq_true (List.mem_filter.mp hp).2
theorem mem_rest {g h : Heap} {L d a : Addr} {o : Obj} (h1 : a ≠ L) (h2 : g.get? a = none) (h3 : h.get? a = some o) (h4 : a ≠ d) : (a, o) ∈ rest g h L d :=
  List.mem_filter.mpr ⟨mem_allNews h1 h2 h3, decide_eq_true h4⟩
theorem news_all {g h : Heap} {L : Addr} : News g L h (allNews g h L) := fun p hp => let ⟨a, b, c⟩ := of_mem_allNews hp; ⟨c, a, b⟩
theorem news_at {g h : Heap} {L d : Addr} {o : Obj} (h1 : d ≠ L) (h2 : g.get? d = none) (h3 : h.get? d = some o) : News g L h ((d, o) :: rest g h L d) := fun p hp => by
  rcases List.mem_cons.mp hp with rfl | hp
  · exact ⟨h3, h1, h2⟩
  · exact news_all p (List.mem_filter.mp hp).1
/-- behind a rule that changed d alone: all else but the frame is kept -/
theorem kept_of_news {g h h' : Heap} {L d : Addr} {m : Str → Option Value} (k : ∀ b o, g.get? b = some o → h.get? b = some o) (F : Fr g L h' m) (N : News g L h' (rest g h L d)) :
    ∀ b o, b ≠ L → b ≠ d → h.get? b = some o → h'.get? b = some o := fun b o h1 h2 e => by
  cases q : g.get? b with
  | some u =>
    have := k b u q
    rw [e] at this; cases this
    exact F.keep b _ q
  | none => exact (N (b, o) (mem_rest h1 q e h2)).1
end L2

namespace L2
open PySem PySem.Spec PyProof.Rows

/-- the module's facts, over the base: the heap at the law's entry without what is tracked there -/
structure Mod (K : PySem.W.Frag) (mg : Str → Option Value) (base : Heap) : Prop where
  kin : K.In base
  glob : base.Ns mainGlobals mg
  blt : ∃ mb, base.Ns builtinsNs mb ∧ ∀ x : Str, x ≠ "__name__" → mb x = bootBuiltins x
  nolimit : base.NoLimit
  nodig : base.NoDigits

/-- the context: a def's body (or a comprehension's block) running. base: fixed through the whole law; s₀, H₀: the entry; outer: the frames whose slots others may change (a def's callers); stack: all frames that run;
   ex: iterators that were made ahead of the entry and are walked here (a comprehension's); fn: the names whose cells were made at the entry (a def: all; a comprehension's block: its own); calm: not within an except suite; pn: pins that every state bears; xe: what is wanted of an exception that leaves the code -/
structure Cx where
  prog : Program
  w : World
  K : PySem.W.Frag
  mg : Str → Option Value
  base : Heap
  A : Around
  N : List Str
  s₀ : Shared
  H₀ : Hp
  env : Env
  outer : List Env
  stack : List Env
  ex : List Addr
  fn : Str → Bool
  calm : Bool
  pn : List (Addr × Obj)
  xe : Value → Shared → Prop
/-- the callers' frames -/
def frs (l : List Env) : List Addr := l.filterMap (·.frame)
abbrev Cx.fs (X : Cx) : List Addr := frs X.outer

def Vis (sc : Scope) (x : Str) : Prop := sc.names.lookup x = some .local ∨ sc.names.lookup x = some .cell ∨ sc.names.lookup x = some .free
def Loc (sc : Scope) (x : Str) : Prop := sc.names.lookup x = some .local ∨ sc.names.lookup x = some .cell
def Look (env : Env) (h : Heap) (m : Str → Option Value) (x : Str) (u : Value) : Prop :=
  (env.kindOf x = some .local ∧ m x = some u) ∨ ((env.kindOf x = some .cell ∨ env.kindOf x = some .free) ∧ ∃ c, env.cells.lookup x = some c ∧ h.IsCell c (some u))

structure Cx.Ok (X : Cx) : Prop where
  mod : Mod X.K X.mg X.base
  kind : X.env.scope.kind = .function
  glob : X.env.globals = mainGlobals
  blt : X.env.builtins = builtinsNs
  above : X.s₀.heap.objs.size ≤ X.env.locals
  inj : ∀ x y c, X.env.cells.lookup x = some c → X.env.cells.lookup y = some c → x = y
  has : ∀ x, (X.env.kindOf x = some .cell ∨ X.env.kindOf x = some .free) → ∃ c, X.env.cells.lookup x = some c
  cab : ∀ x c, X.fn x = true → X.env.cells.lookup x = some c → X.s₀.heap.objs.size ≤ c
  hd : X.calm = true → X.A.handled = none
  frames : X.A.frames = some X.stack
  stk : X.stack = X.outer ∨ (X.stack = X.env :: X.outer ∧ X.env.frame = some X.env.locals)
  exf : ∀ b ∈ X.ex, b ≠ X.env.locals ∧ ∀ x c, X.env.cells.lookup x = some c → c ≠ b
  bs : ∀ b o, X.base.get? b = some o → X.s₀.heap.get? b = some o ∧ X.H₀ b = none
  bsz : X.base.objs.size ≤ X.s₀.heap.objs.size
  noex : ∀ b o, X.base.get? b = some o → b ∉ X.ex
  exfs : ∀ b ∈ X.ex, b ∉ X.fs
  funs : X.s₀.heap.FunFrames X.base X.outer
  frf : ∀ b ∈ X.fs, X.H₀ b = none

structure Inv (X : Cx) (pins : List (Addr × Obj)) (σ : List (Option V)) (H : Hp) (s : Shared) : Prop where
  ok : X.Ok
  os : s.os = X.s₀.os
  bare : AllBare s.gens
  base : Un X.fs X.ex X.H₀ H X.s₀.heap s.heap
  loc : ∃ m, s.heap.Ns X.env.locals m ∧ ∀ (i : Nat) (x : Str) (v : V), X.N[i]? = some x → σ[i]? = some (some v) → Vis X.env.scope x → ∃ u, RelV v u ∧ Look X.env s.heap m x u
  cell : ∀ x c, X.env.cells.lookup x = some c → ∃ v, s.heap.IsCell c v
  free : H X.env.locals = none
  freeC : ∀ x c, X.env.cells.lookup x = some c → H c = none
  pin : ∀ p ∈ X.pn ++ pins, s.heap.get? p.1 = some p.2 ∧ H p.1 = none ∧ p.1 ≠ X.env.locals ∧ p.1 ∉ X.fs ∧ ∀ v, p.2.data ≠ .cell v
  hok : HOk X.prog X.w H s.heap
  len : σ.length = X.N.length

section
variable {X : Cx} {pins : List (Addr × Obj)} {σ : List (Option V)} {H H' : Hp} {s : Shared} {h' : Heap}

theorem Cx.Ok.nofr (ok : X.Ok) {b : Addr} {o : Obj} (e : X.base.get? b = some o) : b ∉ X.fs := fun hb => by
  have := (ok.funs.mem hb).1
  rw [e] at this; cases this
theorem Inv.bs (I : Inv X pins σ H s) : ∀ b o, X.base.get? b = some o → s.heap.get? b = some o ∧ H b = none := fun b o e =>
  ⟨I.base.keep b o (I.ok.bs b o e).1 (I.ok.bs b o e).2 (I.ok.nofr e) (I.ok.noex b o e), I.base.free b o (I.ok.bs b o e).1 (I.ok.bs b o e).2 (I.ok.noex b o e)⟩
theorem Inv.bk (I : Inv X pins σ H s) : ∀ b o, X.base.get? b = some o → s.heap.get? b = some o := fun b o e => (I.bs b o e).1
theorem Inv.mod (I : Inv X pins σ H s) : Mod X.K X.mg X.base := I.ok.mod
theorem Inv.kIn (I : Inv X pins σ H s) : X.K.In s.heap := I.ok.mod.kin.keeps I.bk
theorem Inv.nolimit (I : Inv X pins σ H s) : s.heap.NoLimit := I.ok.mod.nolimit.keeps I.bk
/-- the frame over the base: for OpenK's rules (K.In X.base is I.mod.kin) -/
theorem Inv.fr (I : Inv X pins σ H s) : ∃ m, Fr X.base X.env.locals s.heap m :=
  let ⟨m, hn, _⟩ := I.loc
  ⟨m, hn, I.bk, Nat.le_trans I.ok.bsz I.ok.above⟩
theorem Inv.lt (I : Inv X pins σ H s) : X.env.locals < s.heap.objs.size := let ⟨_, hn, _⟩ := I.loc; hn.lt
theorem Inv.sz (I : Inv X pins σ H s) : X.s₀.heap.objs.size ≤ s.heap.objs.size := Nat.le_trans I.ok.above (Nat.le_of_lt I.lt)
theorem Inv.nofs (I : Inv X pins σ H s) {a : Addr} (h : s.heap.objs.size ≤ a) : a ∉ X.fs := fun hb => by
  obtain ⟨_, o, ho, _⟩ := I.ok.funs.mem hb
  exact absurd (Nat.lt_of_lt_of_le (Heap.lt_size ho) (Nat.le_trans I.sz h)) (Nat.lt_irrefl _)
theorem Inv.cne (I : Inv X pins σ H s) : ∀ x c, X.env.cells.lookup x = some c → c ≠ X.env.locals := fun x c e z => by
  obtain ⟨v, o, ho, hd⟩ := I.cell x c e
  obtain ⟨m, ⟨o', es, ep, ho', hd', _⟩, _⟩ := I.loc
  rw [z, ho'] at ho; cases ho; rw [hd'] at hd; cases hd
theorem Inv.funs (I : Inv X pins σ H s) : s.heap.FunFrames X.base X.outer := by
  have all : ∀ (l : List Env), (∀ b ∈ frs l, b ∈ X.fs) → X.s₀.heap.FunFrames X.base l → s.heap.FunFrames X.base l := by
    intro l
    induction l with
    | nil => intro _ _; trivial
    | cons env r ih =>
      intro hs hl
      obtain ⟨hk, ⟨L, o, hf, hn, ho, hd⟩, hr⟩ := hl
      have hL : L ∈ X.fs := hs L (by unfold frs; rw [List.filterMap_cons, hf]; exact List.mem_cons_self)
      obtain ⟨sl, e⟩ := I.base.slot L o ho (I.ok.frf L hL) hL fun z => I.ok.exfs L z hL
      exact ⟨hk, ⟨L, _, hf, hn, e, hd⟩, ih (fun b hb => hs b (by unfold frs; rw [List.filterMap_cons, hf]; exact List.mem_cons_of_mem _ hb)) hr⟩
  exact all X.outer (fun _ hb => hb) I.ok.funs

/-- the frames that run, for a call -/
theorem Inv.stack (I : Inv X pins σ H s) : s.heap.FunFrames X.base X.stack := by
  rcases I.ok.stk with e | ⟨e, hf⟩
  · rw [e]; exact I.funs
  · rw [e]
    obtain ⟨m, hn, _⟩ := I.loc
    refine .cons (by rw [I.ok.kind]; decide) hf hn ?_ I.funs
    exact Heap.get?_none_of_le (Nat.le_trans I.ok.bsz I.ok.above)
theorem Inv.stkSub (I : Inv X pins σ H s) : ∀ b ∈ frs X.stack, b ∈ X.env.locals :: X.fs := fun b hb => by
  rcases I.ok.stk with e | ⟨e, hf⟩
  · rw [e] at hb; exact List.mem_cons_of_mem _ hb
  · rw [e] at hb
    unfold frs at hb
    rw [List.filterMap_cons, hf] at hb
    exact hb
theorem Inv.stkFree (I : Inv X pins σ H s) : ∀ b ∈ frs X.stack, H b = none := fun b hb => by
  rcases List.mem_cons.mp (I.stkSub b hb) with e | hb
  · rw [e]; exact I.free
  · obtain ⟨_, o, ho, _⟩ := I.ok.funs.mem hb
    exact I.base.free b o ho (I.ok.frf b hb) fun z => I.ok.exfs b z hb

/-- THE STEP: the untracked objects but the frame and the records at ch are kept (the callers' frames up to slots), the frame's map is kept, the new abstract heap is held -/
theorem Inv.step {g' : Array GenState} {t' : Nat} {d' : Drawn} {ch : List Addr} (I : Inv X pins σ H s)
    (hch : ∀ b ∈ ch, (b ∈ X.ex ∨ X.s₀.heap.objs.size ≤ b) ∧ b ≠ X.env.locals ∧ (∀ x c, X.env.cells.lookup x = some c → c ≠ b) ∧ ∀ p ∈ X.pn ++ pins, p.1 ≠ b)
    (keep : ∀ b o, b ≠ X.env.locals → b ∉ X.fs → b ∉ ch → s.heap.get? b = some o → H b = none → h'.get? b = some o)
    (slot : ∀ b o, b ≠ X.env.locals → b ∈ X.fs → b ∉ ch → s.heap.get? b = some o → H b = none → ∃ sl, h'.get? b = some { o with slots := sl }) (free : ∀ b o, b ∉ ch → s.heap.get? b = some o → H b = none → H' b = none)
    (there : ∀ b o, b ∉ ch → s.heap.get? b = some o → ∃ o', h'.get? b = some o')
    (tups : ∀ b xs, H b = some (.tup xs) → H' b = some (.tup xs)) (frzs : ∀ b o u, H b = some (.frz o u) → H' b = some (.frz o u)) (tbls : ∀ b ps, H b = some (.tbl ps) → ∃ more, H' b = some (.tbl (ps ++ more)))
    (ns : ∀ m, s.heap.Ns X.env.locals m → h'.Ns X.env.locals m) (hok : HOk X.prog X.w H' h') (hg : AllBare g') :
    Inv X pins σ H' { s with heap := h', gens := g', drawn := d', toks := t' } := by
  have neL : ∀ b o, X.s₀.heap.get? b = some o → b ≠ X.env.locals := fun b o e => Nat.ne_of_lt (Nat.lt_of_lt_of_le (Heap.lt_size e) I.ok.above)
  have neC : ∀ b o, X.s₀.heap.get? b = some o → b ∉ X.ex → b ∉ ch := fun b o e hx hb => by
    rcases (hch b hb).1 with z | z
    · exact hx z
    · exact absurd (Nat.lt_of_lt_of_le (Heap.lt_size e) z) (Nat.lt_irrefl _)
  have cellK : ∀ x c, X.env.cells.lookup x = some c → ∀ v, s.heap.IsCell c v → h'.IsCell c v := fun x c e v ⟨o, ho, hd⟩ => by
    have nch : c ∉ ch := fun z => (hch c z).2.2.1 x c e rfl
    by_cases hc : c ∈ X.fs
    · obtain ⟨sl, q⟩ := slot c o (I.cne x c e) hc nch ho (I.freeC x c e)
      exact ⟨_, q, hd⟩
    · exact ⟨o, keep c o (I.cne x c e) hc nch ho (I.freeC x c e), hd⟩
  refine ⟨I.ok, I.os, hg, ⟨fun b o e n hb hx => ?_, fun b o e n hb hx => ?_, fun b o e n hx => ?_, fun b o e hx => ?_, fun b xs e => tups b xs (I.base.tups b xs e), fun b o xs e => frzs b o xs (I.base.frzs b o xs e), fun b ps e => ?_⟩, ?_, fun x c e => ?_, ?_, fun x c e => ?_, fun p hp => ?_, hok, I.len⟩
  · exact keep b o (neL b o e) hb (neC b o e hx) (I.base.keep b o e n hb hx) (I.base.free b o e n hx)
  · obtain ⟨sl, e1⟩ := I.base.slot b o e n hb hx
    obtain ⟨sl', e2⟩ := slot b _ (neL b o e) hb (neC b o e hx) e1 (I.base.free b o e n hx)
    exact ⟨sl', e2⟩
  · obtain ⟨o', e1⟩ := I.base.there b o e hx
    exact free b o' (neC b o e hx) e1 (I.base.free b o e n hx)
  · obtain ⟨o', e1⟩ := I.base.there b o e hx
    exact there b o' (neC b o e hx) e1
  · obtain ⟨m1, e1⟩ := I.base.tbls b ps e
    obtain ⟨m2, e2⟩ := tbls b _ e1
    exact ⟨m1 ++ m2, by rw [e2, Array.append_assoc]⟩
  · obtain ⟨m, hn, hl⟩ := I.loc
    refine ⟨m, ns m hn, fun i x v e1 e2 e3 => ?_⟩
    obtain ⟨u, r, l⟩ := hl i x v e1 e2 e3
    refine ⟨u, r, ?_⟩
    rcases l with l | ⟨k, c, e, z⟩
    · exact .inl l
    · exact .inr ⟨k, c, e, cellK x c e _ z⟩
  · obtain ⟨v, z⟩ := I.cell x c e
    exact ⟨v, cellK x c e v z⟩
  · obtain ⟨m, ⟨o, _, _, ho, _⟩, _⟩ := I.loc
    exact free _ o (fun z => (hch _ z).2.1 rfl) ho I.free
  · obtain ⟨v, o, ho, hd⟩ := I.cell x c e
    exact free c o (fun z => (hch c z).2.2.1 x c e rfl) ho (I.freeC x c e)
  · obtain ⟨e, n, ne, nf, d⟩ := I.pin p hp
    have nch : p.1 ∉ ch := fun z => (hch p.1 z).2.2.2 p hp rfl
    exact ⟨keep p.1 p.2 ne nf nch e n, free p.1 p.2 nch e n, ne, nf, d⟩
/-- .. where the frame's own object is kept too -/
theorem Inv.un {t' : Nat} (I : Inv X pins σ H s) (u : Un X.fs [] H H' s.heap h') (hok : HOk X.prog X.w H' h') : Inv X pins σ H' { s with heap := h', toks := t' } := by
  obtain ⟨m, ⟨o, es, ep, ho, r⟩, _⟩ := id I.loc
  obtain ⟨sl, hL⟩ := u.any ho I.free (by simp)
  exact I.step (g' := s.gens) (d' := s.drawn) (ch := []) (fun _ z => nomatch z) (fun b o _ hb _ e n => u.keep b o e n hb (by simp)) (fun b o _ hb _ e n => u.slot b o e n hb (by simp)) (fun b o _ e n => u.free b o e n (by simp)) (fun b o _ e => u.there b o e (by simp)) u.tups u.frzs u.tbls (fun m' hm => by
    obtain ⟨o', es', ep', ho', r'⟩ := hm
    rw [ho] at ho'; cases ho'
    exact ⟨_, es', ep', hL, r'⟩) hok I.bare
/-- behind a call (or a comprehension's block): the slots of this frame may have changed too, the records at ch may have turned -/
theorem Inv.call {g' : Array GenState} {t' : Nat} {d' : Drawn} {ch : List Addr} (I : Inv X pins σ H s) (u : Un (frs X.stack) ch H H' s.heap h') (hok : HOk X.prog X.w H' h') (hg : AllBare g')
    (hch : ∀ b ∈ ch, (b ∈ X.ex ∨ X.s₀.heap.objs.size ≤ b) ∧ b ≠ X.env.locals ∧ (∀ x c, X.env.cells.lookup x = some c → c ≠ b) ∧ ∀ p ∈ X.pn ++ pins, p.1 ≠ b) :
    Inv X pins σ H' { s with heap := h', gens := g', drawn := d', toks := t' } := by
  obtain ⟨m, ⟨o, es, ep, ho, r⟩, _⟩ := id I.loc
  obtain ⟨sl, hL⟩ := u.any ho I.free fun z => (hch _ z).2.1 rfl
  exact I.step (ch := ch) hch (fun b o hL hb hc e n => u.keep b o e n (fun z => (List.mem_cons.mp (I.stkSub b z)).elim hL hb) hc) (fun b o _ _ hc e n => u.any e n hc) (fun b o hc e n => u.free b o e n hc) (fun b o hc e => u.there b o e hc) u.tups u.frzs u.tbls (fun m' hm => by
    obtain ⟨o', es', ep', ho', r'⟩ := hm
    rw [ho] at ho'; cases ho'
    exact ⟨_, es', ep', hL, r'⟩) hok hg
/-- an untracked record of ours (an iterator) has turned -/
theorem Inv.turned {t' : Nat} {it : Addr} (I : Inv X pins σ H s) (k : ∀ b o, b ≠ it → s.heap.get? b = some o → h'.get? b = some o) (hn : H it = none) (hL : it ≠ X.env.locals)
    (h1 : it ∈ X.ex ∨ X.s₀.heap.objs.size ≤ it) (h2 : ∀ x c, X.env.cells.lookup x = some c → c ≠ it) (h3 : ∀ p ∈ X.pn ++ pins, p.1 ≠ it) : Inv X pins σ H { s with heap := h', toks := t' } := by
  have nit : ∀ b u, H b = some u → b ≠ it := fun b u e z => by rw [z, hn] at e; cases e
  refine I.step (g' := s.gens) (d' := s.drawn) (ch := [it]) (fun b hb => ?_) (fun b o _ _ hc e _ => k b o (fun z => hc (by simp [z])) e) (fun b o _ _ hc e _ => ⟨o.slots, k b o (fun z => hc (by simp [z])) e⟩) (fun _ _ _ _ n => n)
    (fun b o hc e => ⟨o, k b o (fun z => hc (by simp [z])) e⟩) (fun _ _ e => e) (fun _ _ _ e => e) (fun b ps e => ⟨#[], by rw [e]; simp⟩) (fun m hm => ?_) (fun b u e => ?_) I.bare
  · have e : b = it := by simpa using hb
    subst e
    exact ⟨h1, hL, h2, h3⟩
  · obtain ⟨o, es, ep, ho, r⟩ := hm
    exact ⟨o, es, ep, k _ o (Ne.symm hL) ho, r⟩
  · refine (I.hok b u e).stay (fun c v hc q => k c v ?_ q) (fun _ q => q) fun _ _ q => q
    rcases hc with z | z
    · rw [z]; exact nit b u e
    · exact nit c _ z
theorem Inv.tok (I : Inv X pins σ H s) (t : Nat) : Inv X pins σ H { s with toks := t } := I.un (h' := s.heap) (t' := t) Un.refl I.hok
/-- all objects kept -/
theorem Inv.kept {t' : Nat} (I : Inv X pins σ H s) (k : ∀ b u, s.heap.get? b = some u → h'.get? b = some u) : Inv X pins σ H { s with heap := h', toks := t' } := I.un (Un.kept k) (I.hok.kept k)
/-- a new object laid and tracked -/
theorem Inv.laid {a : Addr} {o : HO} {t' : Nat} (I : Inv X pins σ H s) (k : ∀ b u, s.heap.get? b = some u → h'.get? b = some u) (hp : s.heap.objs.size ≤ a) (new : ObjOk X.prog X.w (upd H a o) h' a o) :
    Inv X pins σ (upd H a o) { s with heap := h', toks := t' } := I.un (Un.laid k hp (I.hok.fresh hp)) (I.hok.laid k hp new)
/-- an object written -/
theorem Inv.write {x e : Addr} {o : HO} {t' : Nat} (I : Inv X pins σ H s) (mu : Mut (H x)) (he : e = x ∨ H e = some (.own x)) (k : ∀ b u, b ≠ e → s.heap.get? b = some u → h'.get? b = some u) (heo : ∃ u, h'.get? e = some u)
    (new : ObjOk X.prog X.w (upd H x o) h' x o) : Inv X pins σ (upd H x o) { s with heap := h', toks := t' } := I.un (Un.write mu he k heo) (I.hok.write mu he k heo new)
/-- forgetting slots, pins -/
theorem Inv.weak {σ' : List (Option V)} (I : Inv X pins σ H s) (hl : σ'.length = σ.length) (w : ∀ (i : Nat) v, σ'[i]? = some (some v) → σ[i]? = some (some v)) : Inv X pins σ' H s :=
  ⟨I.ok, I.os, I.bare, I.base, let ⟨m, hn, hl'⟩ := I.loc; ⟨m, hn, fun i x v e1 e2 e3 => hl' i x v e1 (w i v e2) e3⟩, I.cell, I.free, I.freeC, I.pin, I.hok, hl.trans I.len⟩
theorem Inv.pins_of {pins' : List (Addr × Obj)} (I : Inv X pins σ H s) (h : ∀ p ∈ pins', s.heap.get? p.1 = some p.2 ∧ H p.1 = none ∧ p.1 ≠ X.env.locals ∧ p.1 ∉ X.fs ∧ ∀ v, p.2.data ≠ .cell v) : Inv X pins' σ H s :=
  ⟨I.ok, I.os, I.bare, I.base, I.loc, I.cell, I.free, I.freeC, fun p hp => (List.mem_append.mp hp).elim (fun z => I.pin p (List.mem_append_left _ z)) (h p), I.hok, I.len⟩

theorem nodup_ix {N : List Str} (hN : N.Nodup) {i j : Nat} {x : Str} (a : N[i]? = some x) (b : N[j]? = some x) : i = j := by
  obtain ⟨h1, e1⟩ := List.getElem?_eq_some_iff.mp a
  obtain ⟨h2, e2⟩ := List.getElem?_eq_some_iff.mp b
  exact (List.getElem_inj hN).mp (e1.trans e2.symm)

/-- a name is stored; what changed -/
theorem store_ok2 {M : Model} {A : Around} {E : Value → Shared → Prop} {i : Nat} {x : Str} {v : V} {u : Value} {Q : Unit → Shared → Prop} (I : Inv X pins σ H s) (hN : X.N.Nodup) (hi : X.N[i]? = some x) (hx : Loc X.env.scope x) (r : RelV v u)
    (h : ∀ s', Inv X pins (σ.set i (some v)) H s' → (∃ a, Heap.SameBut a s.heap s'.heap ∧ (a = X.env.locals ∨ X.env.cells.lookup x = some a)) → Q () s') (hf : X.fn x = true ∨ X.env.scope.names.lookup x = some .local := by first | exact .inl rfl | exact .inr rfl | assumption) : wpAny M A (storeName X.env x u) Q E s := by
  obtain ⟨m, hn, hl⟩ := id I.loc
  have hcls : (X.env.scope.kind == .class || (X.env.scope.kind == .module && X.env.locals != X.env.globals)) = false := by rw [I.ok.kind]; rfl
  have hiσ : i < σ.length := by rw [I.len]; exact (List.getElem?_eq_some_iff.mp hi).1
  have cne := I.cne
  have tracked : ∀ {a : Addr} {h' : Heap}, (∃ o, s.heap.get? a = some o ∧ H a = none) → Heap.SameBut a s.heap h' → HOk X.prog X.w H h' := fun {a h'} ha hs b ob e => by
    obtain ⟨_, _, hfree⟩ := ha
    refine (I.hok b ob e).stay (fun c w' hc q => (hs.2 c ?_).trans q) (fun _ q => q) fun _ _ q => q
    rintro rfl
    rcases hc with rfl | hc
    · rw [hfree] at e; cases e
    · rw [hfree] at hc; cases hc
  rcases hx with hk | hk
  · refine wpAny_storeName_local hk hn (fun h' hn' hs => ?_) hcls
    obtain ⟨oL, _, _, hoL, _⟩ := id hn
    refine h _ ⟨I.ok, I.os, I.bare, ⟨fun b o e n hb hx => ?_, fun b o e n hb hx => ?_, I.base.free, fun b o e hx => ?_, I.base.tups, I.base.frzs, I.base.tbls⟩, ⟨_, hn', fun j y v' e1 e2 e3 => ?_⟩, fun y c e => ?_, I.free, I.freeC, fun p hp => ?_, tracked ⟨oL, hoL, I.free⟩ hs, by simpa using I.len⟩ ⟨_, hs, .inl rfl⟩
    · exact (hs.2 b (Nat.ne_of_lt (Nat.lt_of_lt_of_le (Heap.lt_size e) I.ok.above))).trans (I.base.keep b o e n hb hx)
    · obtain ⟨sl, e1⟩ := I.base.slot b o e n hb hx
      exact ⟨sl, (hs.2 b (Nat.ne_of_lt (Nat.lt_of_lt_of_le (Heap.lt_size e) I.ok.above))).trans e1⟩
    · obtain ⟨o', e1⟩ := I.base.there b o e hx
      exact ⟨o', (hs.2 b (Nat.ne_of_lt (Nat.lt_of_lt_of_le (Heap.lt_size e) I.ok.above))).trans e1⟩
    · by_cases hj : j = i
      · subst hj
        rw [hi] at e1; cases e1
        rw [List.getElem?_set_self hiσ] at e2
        cases e2
        exact ⟨u, r, .inl ⟨hk, by simp⟩⟩
      · rw [List.getElem?_set_ne (Ne.symm hj)] at e2
        obtain ⟨u', r', q⟩ := hl j y v' e1 e2 e3
        refine ⟨u', r', ?_⟩
        rcases q with ⟨k, e⟩ | ⟨k, c, e, z⟩
        · refine .inl ⟨k, ?_⟩
          have : y ≠ x := fun e => hj (nodup_ix hN e1 (e ▸ hi))
          simp [this, e]
        · exact .inr ⟨k, c, e, z.sameBut hs (cne y c e)⟩
    · obtain ⟨w', z⟩ := I.cell y c e
      exact ⟨w', z.sameBut hs (cne y c e)⟩
    · obtain ⟨e, n, ne, nf, d⟩ := I.pin p hp
      exact ⟨(hs.2 p.1 ne).trans e, n, ne, nf, d⟩
  · have hfn : X.fn x = true := by
      rcases hf with z | z
      · exact z
      · rw [z] at hk; cases hk
    obtain ⟨c, hc⟩ := I.ok.has x (.inl hk)
    obtain ⟨w', z⟩ := I.cell x c hc
    refine wpAny_storeName_cell I.ok.kind hk hc z (fun h' hc' hs => ?_)
    obtain ⟨oc, hoc, hocd⟩ := id z
    refine h { s with heap := h' } ⟨I.ok, I.os, I.bare, ⟨fun b o e n hb hx => ?_, fun b o e n hb hx => ?_, I.base.free, fun b o e hx => ?_, I.base.tups, I.base.frzs, I.base.tbls⟩, ⟨m, hn.sameBut hs (Ne.symm (cne x c hc)), fun j y v' e1 e2 e3 => ?_⟩, fun y c' e => ?_, I.free, I.freeC, fun p hp => ?_, tracked ⟨oc, hoc, I.freeC x c hc⟩ hs, by simpa using I.len⟩ ⟨c, hs, .inr hc⟩
    · exact (hs.2 b (Nat.ne_of_lt (Nat.lt_of_lt_of_le (Heap.lt_size e) (I.ok.cab x c hfn hc)))).trans (I.base.keep b o e n hb hx)
    · obtain ⟨sl, e1⟩ := I.base.slot b o e n hb hx
      exact ⟨sl, (hs.2 b (Nat.ne_of_lt (Nat.lt_of_lt_of_le (Heap.lt_size e) (I.ok.cab x c hfn hc)))).trans e1⟩
    · obtain ⟨o', e1⟩ := I.base.there b o e hx
      exact ⟨o', (hs.2 b (Nat.ne_of_lt (Nat.lt_of_lt_of_le (Heap.lt_size e) (I.ok.cab x c hfn hc)))).trans e1⟩
    · by_cases hj : j = i
      · subst hj
        rw [hi] at e1; cases e1
        rw [List.getElem?_set_self hiσ] at e2
        cases e2
        exact ⟨u, r, .inr ⟨.inl hk, c, hc, hc'⟩⟩
      · rw [List.getElem?_set_ne (Ne.symm hj)] at e2
        obtain ⟨u', r', q⟩ := hl j y v' e1 e2 e3
        refine ⟨u', r', ?_⟩
        rcases q with q | ⟨k, c', e, z'⟩
        · exact .inl q
        · refine .inr ⟨k, c', e, z'.sameBut hs ?_⟩
          rintro rfl
          exact hj (nodup_ix hN e1 (I.ok.inj _ _ _ e hc ▸ hi))
    · by_cases hcc : c' = c
      · subst hcc; exact ⟨_, hc'⟩
      · obtain ⟨w2, z2⟩ := I.cell y c' e
        exact ⟨w2, z2.sameBut hs hcc⟩
    · obtain ⟨e, n, ne, nf, d⟩ := I.pin p hp
      refine ⟨(hs.2 p.1 ?_).trans e, n, ne, nf, d⟩
      intro q
      rw [q, hoc] at e
      have q' : oc = p.2 := Option.some.inj e
      exact d w' (by rw [← q']; exact hocd)
theorem store_ok {M : Model} {A : Around} {E : Value → Shared → Prop} {i : Nat} {x : Str} {v : V} {u : Value} {Q : Unit → Shared → Prop} (I : Inv X pins σ H s) (hN : X.N.Nodup) (hi : X.N[i]? = some x) (hx : Loc X.env.scope x) (r : RelV v u)
    (h : ∀ s', Inv X pins (σ.set i (some v)) H s' → Q () s') (hf : X.fn x = true ∨ X.env.scope.names.lookup x = some .local := by first | exact .inl rfl | exact .inr rfl | assumption) : wpAny M A (storeName X.env x u) Q E s :=
  store_ok2 I hN hi hx r (fun s' I' _ => h s' I') hf
/-- behind a call or a block, the state as it is -/
theorem Inv.call' {s' : Shared} {ch : List Addr} (I : Inv X pins σ H s) (ho : s'.os = s.os) (u : Un (frs X.stack) ch H H' s.heap s'.heap) (hok : HOk X.prog X.w H' s'.heap) (hg : AllBare s'.gens)
    (hch : ∀ b ∈ ch, (b ∈ X.ex ∨ X.s₀.heap.objs.size ≤ b) ∧ b ≠ X.env.locals ∧ (∀ x c, X.env.cells.lookup x = some c → c ≠ b) ∧ ∀ p ∈ X.pn ++ pins, p.1 ≠ b) : Inv X pins σ H' s' := by
  obtain ⟨h', g', d', t', o'⟩ := s'
  have e : o' = s.os := ho
  subst e
  exact I.call (g' := g') (t' := t') (d' := d') u hok hg hch
end

/-! ### the judgements -/
/-- an exception: its class, its own dict's address (where it has one), the abstract heap behind it -/
abbrev XK := Value → Option Addr → Hp → Prop
abbrev St := List (Option V)
abbrev VK := V → Hp → Prop
/-- an expression's reading; a test's; an argument list's -/
abbrev TE := St → Hp → VK → Prop
abbrev TT := St → Hp → (Bool → Hp → Prop) → Prop
abbrev TA := St → Hp → (List V → Hp → Prop) → Prop
/-- what is wanted behind a statement -/
structure Ends where
  nx : St → Hp → Prop
  rt : VK
  bk : St → Hp → Prop := fun _ _ => False
  ct : St → Hp → Prop := fun _ _ => False
abbrev TS := Ends → St → Hp → Prop

def EP (X : Cx) (pins : List (Addr × Obj)) (σ : St) (Q : VK) (u : Value) (s' : Shared) : Prop := ∃ v H', Inv X pins σ H' s' ∧ RelV v u ∧ Q v H'
def TP (X : Cx) (pins : List (Addr × Obj)) (σ : St) (Q : Bool → Hp → Prop) (b : Bool) (s' : Shared) : Prop := ∃ H', Inv X pins σ H' s' ∧ Q b H'
def AP (X : Cx) (pins : List (Addr × Obj)) (σ : St) (Q : List V → Hp → Prop) (us : List Value) (s' : Shared) : Prop := ∃ vs H', Inv X pins σ H' s' ∧ Vals vs us ∧ Q vs H'
def SP (X : Cx) (pins : List (Addr × Obj)) (D : Ends) (f : Flow) (s' : Shared) : Prop :=
  match f with
  | .next => ∃ σ' H', Inv X pins σ' H' s' ∧ D.nx σ' H'
  | .brk => ∃ σ' H', Inv X pins σ' H' s' ∧ D.bk σ' H'
  | .cont => ∃ σ' H', Inv X pins σ' H' s' ∧ D.ct σ' H'
  | .ret u => ∃ v σ' H', Inv X pins σ' H' s' ∧ RelV v u ∧ D.rt v H'

def PE (X : Cx) (e : Expr) (t : TE) : Prop :=
  ∀ (pins : List (Addr × Obj)) (s : Shared) (σ : St) (H : Hp) (Q : VK), Inv X pins σ H s → t σ H Q → wpAny (model X.prog X.w) X.A (eval e X.env) (EP X pins σ Q) X.xe s
def PT (X : Cx) (e : Expr) (t : TT) : Prop :=
  ∀ (pins : List (Addr × Obj)) (s : Shared) (σ : St) (H : Hp) (Q : Bool → Hp → Prop), Inv X pins σ H s → t σ H Q → wpAny (model X.prog X.w) X.A (isTrue e X.env (eval e X.env)) (TP X pins σ Q) X.xe s
/-- a test whatever its 'whole' is (and, or) -/
def PW (X : Cx) (e : Expr) (t : TT) : Prop :=
  ∀ (whole : Sem Value) (pins : List (Addr × Obj)) (s : Shared) (σ : St) (H : Hp) (Q : Bool → Hp → Prop), Inv X pins σ H s → t σ H Q → wpAny (model X.prog X.w) X.A (isTrue e X.env whole) (TP X pins σ Q) X.xe s
theorem PW.pt {X : Cx} {e : Expr} {t : TT} (h : PW X e t) : PT X e t := h _
/-- an argument list (no star), from the left -/
def PA (X : Cx) (es : List Expr) (t : TA) : Prop :=
  ∀ (pos : Pos) (pins : List (Addr × Obj)) (s : Shared) (σ : St) (H : Hp) (Q : List V → Hp → Prop), Inv X pins σ H s → t σ H Q → wpAny (model X.prog X.w) X.A (spliced (backTo pos (starEach es X.env))) (AP X pins σ Q) X.xe s
def PS (X : Cx) (st : Stmt) (t : TS) : Prop :=
  ∀ (pins : List (Addr × Obj)) (s : Shared) (σ : St) (H : Hp) (D : Ends), Inv X pins σ H s → t D σ H → wpAny (model X.prog X.w) X.A (exec st X.env) (SP X pins D) X.xe s
def PSs (X : Cx) (st : List Stmt) (t : TS) : Prop :=
  ∀ (pins : List (Addr × Obj)) (s : Shared) (σ : St) (H : Hp) (D : Ends), Inv X pins σ H s → t D σ H → wpAny (model X.prog X.w) X.A (execs st X.env) (SP X pins D) X.xe s
/-- weaken the end -/
theorem thn {α : Type} {t : Sem α} {Q Q' : α → Shared → Prop} {M : Model} {A : Around} {E : Value → Shared → Prop} {s : Shared} (h : wpAny M A t Q E s) (hQ : ∀ a s, Q a s → Q' a s) : wpAny M A t Q' E s := wpAny_mono h hQ fun _ _ x => x
end L2

namespace L2
open PySem PySem.Spec PyProof.Rows
section
variable {X : Cx}

/-- two expressions in a row -/
theorem bin {a b : Expr} {ta tb : TE} (ha : PE X a ta) (hb : PE X b tb) {pins : List (Addr × Obj)} {s : Shared} {σ : St} {H : Hp} {R : V → V → Hp → Prop} (I : Inv X pins σ H s) (h : ta σ H fun x H1 => tb σ H1 fun y H2 => R x y H2)
    {α : Type} {Q : α → Shared → Prop} {f : Value → Value → Sem α}
    (hf : ∀ v u s2 x y H2, Inv X pins σ H2 s2 → RelV x v → RelV y u → R x y H2 → wpAny (model X.prog X.w) X.A (f v u) Q X.xe s2) :
    wpAny (model X.prog X.w) X.A (eval a X.env) (fun v s₁ => wpAny (model X.prog X.w) X.A (eval b X.env) (fun u s₂ => wpAny (model X.prog X.w) X.A (f v u) Q X.xe s₂) X.xe s₁) X.xe s := by
  refine thn (ha pins s σ H _ I h) fun v s1 ⟨x, H1, I1, r1, q1⟩ => ?_
  refine thn (hb pins s1 σ H1 _ I1 q1) fun u s2 ⟨y, H2, I2, r2, q2⟩ => ?_
  exact hf v u s2 x y H2 I2 r1 r2 q2

/-! ### names and constants -/
def tVar (i : Nat) : TE := fun σ H Q => ∃ v, σ[i]? = some (some v) ∧ Q v H
def tC (v : V) : TE := fun _ H Q => Q v H
theorem pe_var {i : Nat} {x : Str} {pos : Pos} (hN : X.N[i]? = some x) (hv : Vis X.env.scope x) (hd : (x == ("__debug__" : Str)) = false := by decide) (hcd : (x == ("__classdict__" : Str)) = false := by decide) : PE X (.Name x pos) (tVar i) := by
  intro pins s σ H Q I h
  obtain ⟨v, e, h⟩ := h
  obtain ⟨m, hn, hl⟩ := I.loc
  obtain ⟨u, r, l⟩ := hl i x v hN e hv
  have fin : EP X pins σ Q u s := ⟨v, H, I, r, h⟩
  rcases l with ⟨hk, hm⟩ | ⟨hk, c, hc, hcell⟩
  · exact wpAny_Name (wpAny_loadName_local I.ok.kind hk hn hm fin) hd
  · rcases hk with hk | hk
    · exact wpAny_Name (wpAny_loadName_cell I.ok.kind hk hc hcell fin) hd
    · exact wpAny_Name (wpAny_loadName_free I.ok.kind hk hc hcell fin hcd) hd
theorem pe_int {i j pos} : PE X (.Constant (.int i) j pos) (tC (.int i)) := fun _ _ _ H _ I h => wpAny_Constant_int ⟨.int i, H, I.tok _, ⟨_, rfl⟩, h⟩
theorem pe_bl {b j pos} : PE X (.Constant (.bool b) j pos) (tC (.bl b)) := fun _ _ _ H _ I h => Constant_bool ⟨.bl b, H, I, rfl, h⟩
theorem pe_non {j pos} : PE X (.Constant .none j pos) (tC .non) := fun _ _ _ H _ I h => Constant_none ⟨.non, H, I, rfl, h⟩
theorem pe_str {x j pos} : PE X (.Constant (.str x) j pos) (tC (.str x)) := fun _ _ _ H _ I h => Calls.Constant_str ⟨.str x, H, I.tok _, ⟨_, rfl⟩, h⟩

/-- a global name of the def -/
def Gl (X : Cx) (x : Str) : Prop := X.env.kindOf x = some .globalImplicit
theorem ld_glob {E : Value → Shared → Prop} {pins : List (Addr × Obj)} {s : Shared} {σ : St} {H : Hp} {x : Str} {u : Value} {pos : Pos} {Q : Value → Shared → Prop} (I : Inv X pins σ H s) (hg : Gl X x) (hm : X.mg x = some u) (h : Q u s)
    (hd : (x == ("__debug__" : Str)) = false := by decide) : wpAny (model X.prog X.w) X.A (eval (.Name x pos) X.env) Q E s :=
  Calls.Name_function_global I.ok.kind hg (Calls.loadGlobal_global (by rw [I.ok.glob]; exact I.mod.glob.keeps I.bk) hm h) hd
theorem ld_blt {E : Value → Shared → Prop} {pins : List (Addr × Obj)} {s : Shared} {σ : St} {H : Hp} {x : Str} {u : Value} {pos : Pos} {Q : Value → Shared → Prop} (I : Inv X pins σ H s) (hg : Gl X x) (hm : X.mg x = none) (hv : bootBuiltins x = some u) (h : Q u s)
    (hn : x ≠ "__name__" := by decide) (hd : (x == ("__debug__" : Str)) = false := by decide) : wpAny (model X.prog X.w) X.A (eval (.Name x pos) X.env) Q E s := by
  obtain ⟨mb, h1, h2⟩ := I.mod.blt
  exact Calls.Name_function_global I.ok.kind hg (Calls.loadGlobal_builtin (by rw [I.ok.glob]; exact I.mod.glob.keeps I.bk) hm (by rw [I.ok.blt]; exact h1.keeps I.bk) ((h2 x hn).trans hv) h) hd
/-- a module's constant, a class, a function, as a value -/
theorem pe_glob {x : Str} {v : V} {u : Value} {pos : Pos} (hg : Gl X x) (hm : X.mg x = some u) (r : RelV v u) (hd : (x == ("__debug__" : Str)) = false := by decide) : PE X (.Name x pos) (tC v) :=
  fun _ _ _ H _ I h => ld_glob I hg hm ⟨v, H, I, r, h⟩ hd
theorem pe_bltn {x : Str} {v : V} {u : Value} {pos : Pos} (hg : Gl X x) (hm : X.mg x = none) (hv : bootBuiltins x = some u) (r : RelV v u) (hn : x ≠ "__name__" := by decide) (hd : (x == ("__debug__" : Str)) = false := by decide) : PE X (.Name x pos) (tC v) :=
  fun _ _ _ H _ I h => ld_blt I hg hm hv ⟨v, H, I, r, h⟩ hn hd

/-! ### arithmetic -/
/-- two ints -/
def t2I (ta tb : TE) (k : Int → Int → Hp → Prop) : St → Hp → Prop := fun σ H => ta σ H fun x H1 => tb σ H1 fun y H2 => ∃ i j, x = .int i ∧ y = .int j ∧ k i j H2
def tAdd (ta tb : TE) : TE := fun σ H Q => t2I ta tb (fun i j H2 => Q (.int (i + j)) H2) σ H
def tSub (ta tb : TE) : TE := fun σ H Q => t2I ta tb (fun i j H2 => Q (.int (i - j)) H2) σ H
/-- the left factor below 2^64 -/
def tMul (ta tb : TE) : TE := fun σ H Q => t2I ta tb (fun i j H2 => (-(2 ^ 64) < i ∧ i < 2 ^ 64) ∧ Q (.int (i * j)) H2) σ H
variable {a b : Expr} {ta tb : TE} {pos : Pos}
theorem pe_add (ha : PE X a ta) (hb : PE X b tb) : PE X (.BinOp a .Add b pos) (tAdd ta tb) := by
  intro pins s σ H Q I h
  refine wpAny_BinOp (bin ha hb I h fun v u s2 x y H2 I2 rx ry q => ?_)
  obtain ⟨i, j, rfl, rfl, q⟩ := q
  obtain ⟨t, rfl⟩ := rx
  obtain ⟨t', rfl⟩ := ry
  exact add_int ⟨.int _, H2, I2.tok _, ⟨_, rfl⟩, q⟩
theorem pe_sub (ha : PE X a ta) (hb : PE X b tb) : PE X (.BinOp a .Sub b pos) (tSub ta tb) := by
  intro pins s σ H Q I h
  refine wpAny_BinOp (bin ha hb I h fun v u s2 x y H2 I2 rx ry q => ?_)
  obtain ⟨i, j, rfl, rfl, q⟩ := q
  obtain ⟨t, rfl⟩ := rx
  obtain ⟨t', rfl⟩ := ry
  exact sub_int ⟨.int _, H2, I2.tok _, ⟨_, rfl⟩, q⟩
theorem pe_mul (ha : PE X a ta) (hb : PE X b tb) : PE X (.BinOp a .Mult b pos) (tMul ta tb) := by
  intro pins s σ H Q I h
  refine wpAny_BinOp (bin ha hb I h fun v u s2 x y H2 I2 rx ry q => ?_)
  obtain ⟨i, j, rfl, rfl, ⟨q1, q2⟩, q⟩ := q
  obtain ⟨t, rfl⟩ := rx
  obtain ⟨t', rfl⟩ := ry
  exact mul_int ⟨.int _, H2, I2.tok _, ⟨_, rfl⟩, q⟩ (.of_left (intBits_le_64 q1 q2))

/-! ### comparisons -/
def PC (X : Cx) (op : CmpOp) (a b : Expr) (t : TE) : Prop :=
  ∀ (pins : List (Addr × Obj)) (s : Shared) (σ : St) (H : Hp) (Q : VK), Inv X pins σ H s → t σ H Q →
    wpAny (model X.prog X.w) X.A (eval a X.env) (fun v s₁ => wpAny (model X.prog X.w) X.A (eval b X.env) (fun u s₂ => wpAny (model X.prog X.w) X.A (compareOp op v u) (EP X pins σ Q) X.xe s₂) X.xe s₁) X.xe s
theorem nobehind (b : Expr) {op : CmpOp} (h : op ≠ .In) (h2 : op ≠ .NotIn) : behindInMarks op b = false := by
  have e1 : (op == CmpOp.In) = false := by cases op <;> first | rfl | exact absurd rfl h
  have e2 : (op == CmpOp.NotIn) = false := by cases op <;> first | rfl | exact absurd rfl h2
  cases b <;> simp [behindInMarks, e1, e2]
def tCmp (p : Int → Int → Bool) (ta tb : TE) : TE := fun σ H Q => t2I ta tb (fun i j H2 => Q (.bl (p i j)) H2) σ H
abbrev tLt : TE → TE → TE := tCmp fun i j => decide (i < j)
abbrev tLe : TE → TE → TE := tCmp fun i j => decide (i ≤ j)
abbrev tGt : TE → TE → TE := tCmp fun i j => decide (j < i)
abbrev tGe : TE → TE → TE := tCmp fun i j => decide (j ≤ i)
abbrev tEqI : TE → TE → TE := tCmp fun i j => decide (i = j)
abbrev tNeI : TE → TE → TE := tCmp fun i j => !decide (i = j)
/-- a comparison of two ints, by its rule -/
theorem pc_int {op : CmpOp} {p : Int → Int → Bool} (ha : PE X a ta) (hb : PE X b tb)
    (rule : ∀ (i j : Int) (t u : Tok) (Q : Value → Shared → Prop) (s : Shared), Q (.bool (p i j)) s → wpAny (model X.prog X.w) X.A (compareOp op (.int i t) (.int j u)) Q X.xe s) : PC X op a b (tCmp p ta tb) := by
  intro pins s σ H Q I h
  refine bin ha hb I h fun v u s2 x y H2 I2 rx ry q => ?_
  obtain ⟨i, j, rfl, rfl, q⟩ := q
  obtain ⟨t, rfl⟩ := rx
  obtain ⟨t', rfl⟩ := ry
  exact rule i j t t' _ s2 ⟨.bl _, H2, I2, rfl, q⟩
theorem pc_lt (ha : PE X a ta) (hb : PE X b tb) : PC X .Lt a b (tLt ta tb) := pc_int ha hb fun _ _ _ _ _ _ h => lt_int h
theorem pc_le (ha : PE X a ta) (hb : PE X b tb) : PC X .LtE a b (tLe ta tb) := pc_int ha hb fun _ _ _ _ _ _ h => le_int h
theorem pc_gt (ha : PE X a ta) (hb : PE X b tb) : PC X .Gt a b (tGt ta tb) := pc_int ha hb fun _ _ _ _ _ _ h => gt_int h
theorem pc_ge (ha : PE X a ta) (hb : PE X b tb) : PC X .GtE a b (tGe ta tb) := pc_int ha hb fun _ _ _ _ _ _ h => ge_int h
theorem pc_eqI (ha : PE X a ta) (hb : PE X b tb) : PC X .Eq a b (tEqI ta tb) := pc_int ha hb fun _ _ _ _ _ _ h => eq_int (by rw [Bool.beq_eq_decide_eq]; exact h)
theorem pc_neI (ha : PE X a ta) (hb : PE X b tb) : PC X .NotEq a b (tNeI ta tb) := pc_int ha hb fun _ _ _ _ _ _ h => ne_int (by rw [bne, Bool.beq_eq_decide_eq]; exact h)
/-- is None -/
def tIsN (ta : TE) : TE := fun σ H Q => ta σ H fun x H1 => Q (.bl (decide (x = .non))) H1
def tNotN (ta : TE) : TE := fun σ H Q => ta σ H fun x H1 => Q (.bl (!decide (x = .non))) H1
theorem RelV.none_iff {x : V} {v : Value} (r : RelV x v) : (v == Value.none) = decide (x = .non) := by
  cases x with
  | non => cases r; rfl
  | bl _ => cases r; rfl
  | int _ => obtain ⟨t, rfl⟩ := r; rfl
  | str _ => obtain ⟨t, rfl⟩ := r; rfl
  | byt _ => obtain ⟨t, rfl⟩ := r; rfl
  | flt _ => obtain ⟨t, rfl⟩ := r; rfl
  | ref _ => cases r; rfl
  | ty _ => cases r; rfl
theorem pc_isN {j pos'} (ha : PE X a ta) : PC X .Is a (.Constant .none j pos') (tIsN ta) := by
  intro pins s σ H Q I h
  refine thn (ha pins s σ H _ I h) fun v s1 ⟨x, H1, I1, r1, q1⟩ => ?_
  exact Constant_none (is_none_gen ⟨.bl _, H1, I1, by rw [r1.none_iff]; rfl, q1⟩)
theorem pc_notN {j pos'} (ha : PE X a ta) : PC X .IsNot a (.Constant .none j pos') (tNotN ta) := by
  intro pins s σ H Q I h
  refine thn (ha pins s σ H _ I h) fun v s1 ⟨x, H1, I1, r1, q1⟩ => ?_
  exact Constant_none (isnot_none_gen ⟨.bl _, H1, I1, by rw [r1.none_iff]; rfl, q1⟩)
/-- a comparison as a value, as a test -/
def tB (t : TE) : TT := fun σ H Q => t σ H fun x H1 => ∃ c, x = .bl c ∧ Q c H1
theorem pe_cmp {op : CmpOp} {t : TE} (h : PC X op a b t) (h1 : behindInMarks op b = false := by first | exact nobehind _ (by decide) (by decide) | rfl) : PE X (.Compare a [op] [b] pos) t := fun pins s σ H Q I hw => wpAny_Compare1 (h pins s σ H Q I hw) h1
theorem pt_cmp {op : CmpOp} {t : TE} (h : PC X op a b t) (h1 : behindInMarks op b = false := by first | exact nobehind _ (by decide) (by decide) | rfl) : PT X (.Compare a [op] [b] pos) (tB t) := by
  intro pins s σ H Q I hw
  refine wpAny_isTrue_Compare1 (thn (h pins s σ H _ I hw) fun v s1 h1 => thn h1 fun u s2 h2 => thn h2 fun c s3 ⟨x, H1, I1, r1, q1⟩ => ?_) h1
  obtain ⟨d, rfl, q⟩ := q1
  cases r1
  exact wpAny_truthy_bool ⟨H1, I1, q⟩
/-- an expression whose value is a bool, as a test -/
theorem pt_val {e : Expr} {t : TE} (h : PE X e t) (he : ∀ whole, isTrue e X.env whole = (do let v ← whole; standAt e.pos; holding [v] (truthy v)) := by intro _; rfl) : PT X e (tB t) := by
  intro pins s σ H Q I hw
  refine isTrue_plain (thn (h pins s σ H _ I hw) fun v s1 ⟨x, H1, I1, r1, q1⟩ => ?_) (he _)
  obtain ⟨d, rfl, q⟩ := q1
  cases r1
  exact wpAny_truthy_bool ⟨H1, I1, q⟩

/-! ### and, or, not -/
variable {tA tB' : TT} {rest : List Expr}
def tAnd (t u : TT) : TT := fun σ H Q => t σ H fun c H1 => if c = true then u σ H1 Q else Q false H1
def tOr (t u : TT) : TT := fun σ H Q => t σ H fun c H1 => if c = true then Q true H1 else u σ H1 Q
def tNot (t : TT) : TT := fun σ H Q => t σ H fun c H1 => Q (!c) H1
theorem pw_and1 (ha : PT X a tA) : PW X (.BoolOp .And [a] pos) tA := by
  intro wh pins s σ H Q I h
  refine isTrue_and (thn (ha pins s σ H Q I h) fun c s1 e => ?_)
  cases c with
  | true => exact isTrue_and_nil e
  | false => exact e
theorem pw_or1 (ha : PT X a tA) : PW X (.BoolOp .Or [a] pos) tA := by
  intro wh pins s σ H Q I h
  refine isTrue_or (thn (ha pins s σ H Q I h) fun c s1 e => ?_)
  cases c with
  | false => exact isTrue_or_nil e
  | true => exact e
theorem pw_and (ha : PT X a tA) (hb : PW X (.BoolOp .And (b :: rest) pos) tB') : PW X (.BoolOp .And (a :: b :: rest) pos) (tAnd tA tB') := by
  intro wh pins s σ H Q I h
  refine isTrue_and (thn (ha pins s σ H _ I h) fun c s1 ⟨H1, I1, q1⟩ => ?_)
  cases c with
  | true => exact hb wh pins s1 σ H1 Q I1 q1
  | false => exact ⟨H1, I1, q1⟩
theorem pw_or (ha : PT X a tA) (hb : PW X (.BoolOp .Or (b :: rest) pos) tB') : PW X (.BoolOp .Or (a :: b :: rest) pos) (tOr tA tB') := by
  intro wh pins s σ H Q I h
  refine isTrue_or (thn (ha pins s σ H _ I h) fun c s1 ⟨H1, I1, q1⟩ => ?_)
  cases c with
  | true => exact ⟨H1, I1, q1⟩
  | false => exact hb wh pins s1 σ H1 Q I1 q1
theorem pt_not (ha : PT X a tA) : PT X (.UnaryOp .Not a pos) (tNot tA) := by
  intro pins s σ H Q I h
  exact isTrue_not (ha pins s σ H (fun c H1 => Q (!c) H1) I h)
/-- .. as values (bools) -/
def tAndV (ta tb : TE) : TE := fun σ H Q => ta σ H fun x H1 => ∃ c, x = .bl c ∧ if c = true then tb σ H1 Q else Q (.bl false) H1
def tOrV (ta tb : TE) : TE := fun σ H Q => ta σ H fun x H1 => ∃ c, x = .bl c ∧ if c = true then Q (.bl true) H1 else tb σ H1 Q
def tNotV (ta : TE) : TE := fun σ H Q => ta σ H fun x H1 => ∃ c, x = .bl c ∧ Q (.bl (!c)) H1
theorem pe_one {op} {t : TE} (h : PE X a t) : PE X (.BoolOp op [a] pos) t := fun pins s σ H Q I hw => BoolOp_one (h pins s σ H Q I hw)
theorem pe_and (ha : PE X a ta) (hb : PE X (.BoolOp .And (b :: rest) pos) tb) : PE X (.BoolOp .And (a :: b :: rest) pos) (tAndV ta tb) := by
  intro pins s σ H Q I h
  refine BoolOp_and (thn (ha pins s σ H _ I h) fun v s1 ⟨x, H1, I1, r1, q1⟩ => ?_)
  obtain ⟨c, rfl, q1⟩ := q1
  cases r1
  refine wpAny_truthy_bool ?_
  cases c with
  | true => exact hb pins s1 σ H1 Q I1 q1
  | false => exact ⟨.bl false, H1, I1, rfl, q1⟩
theorem pe_or (ha : PE X a ta) (hb : PE X (.BoolOp .Or (b :: rest) pos) tb) : PE X (.BoolOp .Or (a :: b :: rest) pos) (tOrV ta tb) := by
  intro pins s σ H Q I h
  refine BoolOp_or (thn (ha pins s σ H _ I h) fun v s1 ⟨x, H1, I1, r1, q1⟩ => ?_)
  obtain ⟨c, rfl, q1⟩ := q1
  cases r1
  refine wpAny_truthy_bool ?_
  cases c with
  | false => exact hb pins s1 σ H1 Q I1 q1
  | true => exact ⟨.bl true, H1, I1, rfl, q1⟩
theorem pe_not (ha : PE X a ta) : PE X (.UnaryOp .Not a pos) (tNotV ta) := by
  intro pins s σ H Q I h
  refine UnaryOp_ (thn (ha pins s σ H _ I h) fun v s1 ⟨x, H1, I1, r1, q1⟩ => ?_)
  obtain ⟨c, rfl, q1⟩ := q1
  cases r1
  exact not_of (wpAny_truthy_bool ⟨.bl (!c), H1, I1, rfl, q1⟩)
/-- a if t else b -/
def tIf (t : TT) (ta tb : TE) : TE := fun σ H Q => t σ H fun c H1 => if c = true then ta σ H1 Q else tb σ H1 Q
theorem pe_ifExp {c : Expr} (hc : PT X c tA) (ha : PE X a ta) (hb : PE X b tb) : PE X (.IfExp c a b pos) (tIf tA ta tb) := by
  intro pins s σ H Q I h
  refine wpAny_IfExp (thn (hc pins s σ H _ I h) fun d s1 ⟨H1, I1, q1⟩ => ?_)
  cases d with
  | true => exact ha pins s1 σ H1 Q I1 q1
  | false => exact hb pins s1 σ H1 Q I1 q1
end
end L2

namespace L2
open PySem PySem.Spec PyProof.Rows

/-! ### a list, a tuple that is read: tracked, frozen, or an object of the module -/
def SqL (K : PySem.W.Frag) (H : Hp) (a : Addr) (xs : List V) : Prop :=
  Rd H a (.lst xs) ∨
    ∃ (o : Obj) (its : Array Value) (n : Nat), K.lookup a = some o ∧ o.cls = .type "list" ∧ o.dict = none ∧ o.data = .seq its n ∧ its.size ≤ sizeLine ∧ Vals xs its.toList
def SqT (K : PySem.W.Frag) (H : Hp) (a : Addr) (xs : List V) : Prop :=
  Rd H a (.tup xs) ∨
    ∃ (o : Obj) (its : Array Value) (n : Nat), K.lookup a = some o ∧ o.cls = .type "tuple" ∧ o.data = .seq its n ∧ its.size ≤ sizeLine ∧ Vals xs its.toList
def absV : Value → Option V
  | .none => some .non
  | .bool b => some (.bl b)
  | .int i _ => some (.int i)
  | .str x _ => some (.str x)
  | .bytes b _ => some (.byt b)
  | .float b _ => some (.flt b)
  | .ref a => some (.ref a)
  | .type n => some (.ty n)
  | _ => none
theorem RelV.abs {x : V} {u : Value} (r : RelV x u) : absV u = some x := by
  cases x with
  | non => cases r; rfl
  | bl _ => cases r; rfl
  | int _ => obtain ⟨t, rfl⟩ := r; rfl
  | str _ => obtain ⟨t, rfl⟩ := r; rfl
  | byt _ => obtain ⟨t, rfl⟩ := r; rfl
  | flt _ => obtain ⟨t, rfl⟩ := r; rfl
  | ref _ => cases r; rfl
  | ty _ => cases r; rfl
theorem RelV.inj {x y : V} {u : Value} (r : RelV x u) (q : RelV y u) : x = y := Option.some.inj (r.abs.symm.trans q.abs)
theorem Vals.inj : ∀ {xs ys : List V} {us : List Value}, Vals xs us → Vals ys us → xs = ys
  | _, _, _, .nil, .nil => rfl
  | _, _, _, .cons r t, .cons r' t' => by rw [r.inj r', Vals.inj t t']
section
variable {X : Cx} {pins : List (Addr × Obj)} {σ : St} {H : Hp} {s : Shared} {a : Addr} {xs ys : List V}
theorem SqL.of {K : PySem.W.Frag} (h : H a = some (.lst xs)) : SqL K H a xs := .inl (.inl h)
theorem SqT.of {K : PySem.W.Frag} (h : H a = some (.tup xs)) : SqT K H a xs := .inl (.inl h)
theorem Inv.list (I : Inv X pins σ H s) (h : SqL X.K H a xs) : ∃ its : List Value, Vals xs its ∧ PlainL s.heap a its.toArray ∧ xs.length ≤ sizeLine := by
  rcases h with h | ⟨o, its, n, hk, hc, hd, hs, hz, r⟩
  · obtain ⟨z, its, n, r, e⟩ := h.ok I.hok
    exact ⟨its, r, ⟨_, n, e, rfl, rfl, rfl⟩, z⟩
  · refine ⟨its.toList, r, ⟨o, n, I.kIn a o hk, hc, hd, by simpa using hs⟩, ?_⟩
    have e := r.length
    simp only [Array.length_toList] at e
    omega
theorem Inv.tuple (I : Inv X pins σ H s) (h : SqT X.K H a xs) : ∃ its : List Value, Vals xs its ∧ IsTup s.heap a its.toArray ∧ xs.length ≤ sizeLine := by
  rcases h with h | ⟨o, its, n, hk, hc, hs, hz, r⟩
  · obtain ⟨z, its, r, p⟩ := h.ok I.hok
    exact ⟨its, r, p, z⟩
  · refine ⟨its.toList, r, ⟨o, I.kIn a o hk, hc, n, by simpa using hs⟩, ?_⟩
    have e := r.length
    simp only [Array.length_toList] at e
    omega
theorem Inv.list_inj (I : Inv X pins σ H s) (h : SqL X.K H a xs) (h' : SqL X.K H a ys) : xs = ys := by
  obtain ⟨its, r, ⟨o, n, e, _, _, d⟩, _⟩ := I.list h
  obtain ⟨its', r', ⟨o', n', e', _, _, d'⟩, _⟩ := I.list h'
  rw [e] at e'; cases e'
  rw [d] at d'
  injection d' with d1 _
  have : its = its' := by simpa using congrArg Array.toList d1
  subst this
  exact r.inj r'
theorem Inv.tuple_inj (I : Inv X pins σ H s) (h : SqT X.K H a xs) (h' : SqT X.K H a ys) : xs = ys := by
  obtain ⟨its, r, ⟨o, e, _, n, d⟩, _⟩ := I.tuple h
  obtain ⟨its', r', ⟨o', e', _, n', d'⟩, _⟩ := I.tuple h'
  rw [e] at e'; cases e'
  rw [d] at d'
  injection d' with d1 _
  have : its = its' := by simpa using congrArg Array.toList d1
  subst this
  exact r.inj r'
end

/-! ### another wish about exceptions -/
abbrev Cx.wish (X : Cx) (E : Value → Shared → Prop) : Cx := { X with xe := E }
/-- no exception leaves -/
abbrev Cx.nox (X : Cx) : Cx := X.wish fun _ _ => False
theorem Cx.Ok.wish {X : Cx} (ok : X.Ok) (E : Value → Shared → Prop) : (X.wish E).Ok :=
  ⟨ok.mod, ok.kind, ok.glob, ok.blt, ok.above, ok.inj, ok.has, ok.cab, ok.hd, ok.frames, ok.stk, ok.exf, ok.bs, ok.bsz, ok.noex, ok.exfs, ok.funs, ok.frf⟩
theorem Cx.Ok.unwish {X : Cx} {E : Value → Shared → Prop} (ok : (X.wish E).Ok) : X.Ok :=
  ⟨ok.mod, ok.kind, ok.glob, ok.blt, ok.above, ok.inj, ok.has, ok.cab, ok.hd, ok.frames, ok.stk, ok.exf, ok.bs, ok.bsz, ok.noex, ok.exfs, ok.funs, ok.frf⟩
section
variable {X : Cx} {pins : List (Addr × Obj)} {σ : St} {H : Hp} {s : Shared} {E : Value → Shared → Prop}
theorem Inv.wish (I : Inv X pins σ H s) (E : Value → Shared → Prop) : Inv (X.wish E) pins σ H s := ⟨I.ok.wish E, I.os, I.bare, I.base, I.loc, I.cell, I.free, I.freeC, I.pin, I.hok, I.len⟩
theorem Inv.unwish (I : Inv (X.wish E) pins σ H s) : Inv X pins σ H s := ⟨I.ok.unwish, I.os, I.bare, I.base, I.loc, I.cell, I.free, I.freeC, I.pin, I.hok, I.len⟩
theorem SP.unwish {D : Ends} {f : Flow} {s' : Shared} (h : SP (X.wish E) pins D f s') : SP X pins D f s' := by
  cases f with
  | next => obtain ⟨σ', H', I, q⟩ := h; exact ⟨σ', H', I.unwish, q⟩
  | brk => obtain ⟨σ', H', I, q⟩ := h; exact ⟨σ', H', I.unwish, q⟩
  | cont => obtain ⟨σ', H', I, q⟩ := h; exact ⟨σ', H', I.unwish, q⟩
  | ret u => obtain ⟨v, σ', H', I, r, q⟩ := h; exact ⟨v, σ', H', I.unwish, r, q⟩
theorem PE.nox {e : Expr} {t : TE} (h : PE X.nox e t) : PE X e t := fun pins s σ H Q I hw =>
  wpAny_mono (h pins s σ H Q (I.wish _) hw) (fun _ _ ⟨v, H', I', r, q⟩ => ⟨v, H', I'.unwish, r, q⟩) fun _ _ z => False.elim z
theorem PT.nox {e : Expr} {t : TT} (h : PT X.nox e t) : PT X e t := fun pins s σ H Q I hw =>
  wpAny_mono (h pins s σ H Q (I.wish _) hw) (fun _ _ ⟨H', I', q⟩ => ⟨H', I'.unwish, q⟩) fun _ _ z => False.elim z
theorem PSs.nox {st : List Stmt} {t : TS} (h : PSs X.nox st t) : PSs X st t := fun pins s σ H D I hw =>
  wpAny_mono (h pins s σ H D (I.wish _) hw) (fun _ _ q => q.unwish) fun _ _ z => False.elim z
end

/-! ### blocks and small statements -/
section
variable {X : Cx} {st : Stmt} {rest : List Stmt} {t u : TS} {e : Expr} {te : TE} {pos : Pos}
def tNext : TS := fun D σ H => D.nx σ H
def tSeq (t u : TS) : TS := fun D σ H => t { D with nx := u D } σ H
theorem pss_nil : PSs X [] tNext := fun _ _ σ H _ I h => wpAny_execs_nil ⟨σ, H, I, h⟩
theorem pss_cons (h1 : PS X st t) (h2 : PSs X rest u) : PSs X (st :: rest) (tSeq t u) := by
  intro pins s σ H D I h
  refine wpAny_execs_cons (thn (h1 pins s σ H { D with nx := u D } I h) fun f s1 q => ?_)
  cases f with
  | next =>
    obtain ⟨σ', H', I', q⟩ := q
    exact h2 pins s1 σ' H' D I' q
  | ret v => exact q
  | brk => exact q
  | cont => exact q
theorem pss_one (h1 : PS X st t) : PSs X [st] t := by
  intro pins s σ H D I h
  refine wpAny_execs_cons (thn (h1 pins s σ H D I h) fun f s1 q => ?_)
  cases f with
  | next => exact wpAny_execs_nil q
  | ret v => exact q
  | brk => exact q
  | cont => exact q
def tBreak : TS := fun D σ H => D.bk σ H
def tCont : TS := fun D σ H => D.ct σ H
theorem ps_pass : PS X (.Pass pos) tNext := fun _ _ σ H _ I h => wpAny_Pass ⟨σ, H, I, h⟩
theorem ps_break : PS X (.Break pos) tBreak := fun _ _ σ H _ I h => wpAny_Break ⟨σ, H, I, h⟩
theorem ps_continue : PS X (.Continue pos) tCont := fun _ _ σ H _ I h => wpAny_Continue ⟨σ, H, I, h⟩
/-- in a def's body nothing is shown -/
theorem Inv.quiet {pins : List (Addr × Obj)} {σ : St} {H : Hp} {s : Shared} (I : Inv X pins σ H s) : interactive X.env = false := by simp [interactive, I.ok.kind]
/-- a docstring -/
theorem ps_doc {x j pos pos'} : PS X (.Expr (.Constant (.str x) j pos) pos') tNext := fun _ s σ H _ I h => wpAny_Expr (Calls.Constant_str (show SP X _ _ .next { s with toks := s.toks + 1 } from ⟨σ, H, I.tok _, h⟩)) I.quiet
/-- an expression whose value is dropped -/
def tDrop (te : TE) : TS := fun D σ H => te σ H fun _ H1 => D.nx σ H1
theorem ps_expr (he : PE X e te) (hs : swapsWith e none pos.line X.env = pure false := by rfl) : PS X (.Expr e pos) (tDrop te) := by
  intro pins s σ H D I h
  exact wpAny_Expr_any (thn (he pins s σ H _ I h) fun v s1 ⟨x, H1, I1, r1, q1⟩ => ⟨σ, H1, I1, q1⟩) I.quiet hs
def tRet (te : TE) : TS := fun D σ H => te σ H D.rt
theorem ps_ret (he : PE X e te) : PS X (.Return (some e) pos) (tRet te) := by
  intro pins s σ H D I h
  exact wpAny_Return_some (thn (he pins s σ H _ I h) fun v s1 ⟨x, H1, I1, r1, q1⟩ => ⟨x, σ, H1, I1, r1, q1⟩)
def tRetN : TS := fun D _ H => D.rt .non H
theorem ps_retN : PS X (.Return none pos) tRetN := fun _ _ σ H _ I h => wpAny_Return_none ⟨.non, σ, H, I, rfl, h⟩
def tIfS (c : TT) (t u : TS) : TS := fun D σ H => c σ H fun b H1 => if b = true then t D σ H1 else u D σ H1
theorem ps_if {c : Expr} {a b : List Stmt} {tc : TT} (hc : PT X c tc) (ha : PSs X a t) (hb : PSs X b u) : PS X (.If c a b pos) (tIfS tc t u) := by
  intro pins s σ H D I h
  refine wpAny_If (thn (hc pins s σ H _ I h) fun d s1 ⟨H1, I1, q1⟩ => ?_)
  cases d with
  | true => exact ha pins s1 σ H1 D I1 q1
  | false => exact hb pins s1 σ H1 D I1 q1
/-- code that the proof never comes to -/
def tNever : TS := fun _ _ _ => False
theorem ps_never : PS X st tNever := fun _ _ _ _ _ _ h => h.elim
theorem pss_never {sts : List Stmt} : PSs X sts tNever := fun _ _ _ _ _ _ h => h.elim
end

/-! ### targets -/
abbrev TG := V → St → Hp → (St → Hp → Prop) → Prop
abbrev TGs := List V → St → Hp → (St → Hp → Prop) → Prop
def PG (X : Cx) (target : Expr) (t : TG) : Prop :=
  ∀ (pins : List (Addr × Obj)) (s : Shared) (σ : St) (H : Hp) (v : V) (u : Value) (Q : St → Hp → Prop), Inv X pins σ H s → RelV v u → t v σ H Q →
    wpAny (model X.prog X.w) X.A (assign target X.env u) (fun _ s' => ∃ σ' H', Inv X pins σ' H' s' ∧ Q σ' H') X.xe s
/-- several targets, one after another -/
def PGs (X : Cx) (ts : List Expr) (t : TGs) : Prop :=
  ∀ (pins : List (Addr × Obj)) (s : Shared) (σ : St) (H : Hp) (vs : List V) (us : List Value) (Q : St → Hp → Prop), Inv X pins σ H s → Vals vs us → t vs σ H Q →
    wpAny (model X.prog X.w) X.A (assignInOrder ((assignEach ts X.env).map (·.2)) us) (fun _ s' => ∃ σ' H', Inv X pins σ' H' s' ∧ Q σ' H') X.xe s
/-- o[i] = v, by values -/
abbrev TSet := V → V → V → Hp → (Hp → Prop) → Prop
def PSet (X : Cx) (t : TSet) : Prop :=
  ∀ (pins : List (Addr × Obj)) (s : Shared) (σ : St) (H : Hp) (o i v : V) (ov iv u : Value) (Q : Hp → Prop), Inv X pins σ H s → RelV o ov → RelV i iv → RelV v u → t o i v H Q →
    wpAny (model X.prog X.w) X.A (setItem ov iv u) (fun _ s' => ∃ H', Inv X pins σ H' s' ∧ Q H') X.xe s
/-- a op= b, by values -/
abbrev TIp := V → V → Hp → VK → Prop
def PIp (X : Cx) (op : Operator) (t : TIp) : Prop :=
  ∀ (pins : List (Addr × Obj)) (s : Shared) (σ : St) (H : Hp) (x y : V) (v u : Value) (Q : VK), Inv X pins σ H s → RelV x v → RelV y u → t x y H Q →
    wpAny (model X.prog X.w) X.A (inplaceOp op v u) (EP X pins σ Q) X.xe s
section
variable {X : Cx} {pos : Pos}
def gName (i : Nat) : TG := fun v σ H Q => Q (σ.set i (some v)) H
theorem pg_name {i : Nat} {x : Str} (hN : X.N.Nodup) (hi : X.N[i]? = some x) (hx : Loc X.env.scope x) (hf : X.fn x = true ∨ X.env.scope.names.lookup x = some .local := by first | exact .inl rfl | exact .inr rfl | assumption) : PG X (.Name x pos) (gName i) := by
  intro pins s σ H v u Q I r h
  exact wpAny_assign_Name (store_ok I hN hi hx r (fun s' I' => ⟨_, H, I', h⟩) hf)
def gNil : TGs := fun vs σ H Q => vs = [] ∧ Q σ H
def gCons (t : TG) (u : TGs) : TGs := fun vs σ H Q => ∃ v r, vs = v :: r ∧ t v σ H fun σ' H' => u r σ' H' Q
theorem pgs_nil : PGs X [] gNil := by
  intro pins s σ H vs us Q I r h
  obtain ⟨e, h⟩ := h
  subst e
  cases r
  exact assignInOrder_nil ⟨σ, H, I, h⟩
theorem pgs_cons {e : Expr} {es : List Expr} {t : TG} {u : TGs} (h1 : PG X e t) (h2 : PGs X es u)
    (hs : (assignEach (e :: es) X.env).map (·.2) = assign e X.env :: (assignEach es X.env).map (·.2) := by rfl) : PGs X (e :: es) (gCons t u) := by
  intro pins s σ H vs us Q I r h
  obtain ⟨v, vr, e1, h⟩ := h
  subst e1
  cases r with
  | cons r rr =>
    rw [hs]
    refine assignInOrder_cons (thn (h1 pins s σ H _ _ _ I r h) fun _ s1 ⟨σ1, H1, I1, q1⟩ => ?_)
    exact h2 pins s1 σ1 H1 _ _ Q I1 rr q1
/-- (a, b, ..) = a tuple of that length -/
def gTup (K : PySem.W.Frag) (n : Nat) (t : TGs) : TG := fun v σ H Q => ∃ a xs, v = .ref a ∧ SqT K H a xs ∧ xs.length = n ∧ t xs σ H Q
theorem pg_tup {es : List Expr} {k : Nat} {t : TGs} {n : Nat} (hc : X.calm = true) (h : PGs X es t)
    (hn : (assignEach es X.env).length = n := by rfl) (hst : (assignEach es X.env).findIdx? (·.1) = none := by rfl) : PG X (.Tuple es k pos) (gTup X.K n t) := by
  intro pins s σ H v u Q I r hw
  obtain ⟨a, xs, e1, hq, hl, hw⟩ := hw
  subst e1
  cases r
  obtain ⟨its, rv, ht, hz⟩ := I.tuple hq
  refine assign_Tuple_tuple (I.ok.hd hc) ht (by simp [hn, ← hl, rv.length]) hst fun h' hx => ?_
  have I1 : Inv X pins σ H { s with heap := h' } := I.kept (t' := s.toks) fun b o e => hx b o (Nat.ne_of_lt (Heap.lt_size e)) e
  exact h pins _ σ H xs _ Q I1 (by simpa using rv) hw
/-- o[i] = .. -/
def gSub (to ti : TE) (t : TSet) : TG := fun v σ H Q => to σ H fun o H1 => ti σ H1 fun i H2 => t o i v H2 fun H3 => Q σ H3
theorem pg_sub {o i : Expr} {to ti : TE} {t : TSet} (ho : PE X o to) (hi : PE X i ti) (hs : PSet X t)
    (ha : ∀ v, assign (.Subscript o i pos) X.env v = (do
      let ov ← holding [v] (eval o X.env)
      let iv ← holding [v, ov] (eval i X.env)
      standAt pos
      holding [v, ov, iv] (setItem ov iv v)
      release [v, ov, iv] []) := by intro _; rfl) : PG X (.Subscript o i pos) (gSub to ti t) := by
  intro pins s σ H v u Q I r h
  rw [ha]
  refine wpAny_bind (wpAny_holding (thn (ho pins s σ H _ I h) fun ov s1 ⟨x, H1, I1, r1, q1⟩ => ?_))
  refine wpAny_bind (wpAny_holding (thn (hi pins s1 σ H1 _ I1 q1) fun iv s2 ⟨y, H2, I2, r2, q2⟩ => ?_))
  refine wpAny_bind (wpAny_standAt (wpAny_bind (wpAny_holding (thn (hs pins s2 σ H2 x y v ov iv u _ I2 r1 r2 r q2) fun _ s3 ⟨H3, I3, q3⟩ => ?_))))
  exact wpAny_release ⟨σ, H3, I3, q3⟩
/-- target = value -/
def tAsg (te : TE) (g : TG) : TS := fun D σ H => te σ H fun x H1 => g x σ H1 D.nx
theorem ps_asg {tg e : Expr} {te : TE} {g : TG} (he : PE X e te) (hg : PG X tg g) (hs : swapsWithSole [tg] e pos.line X.env = pure false := by rfl) (hw : swappedStores [tg] e X.env = pure none := by rfl)
    (h1 : (assignEach [tg] X.env).map (·.2) = [assign tg X.env] := by rfl) : PS X (.Assign [tg] e pos) (tAsg te g) := by
  intro pins s σ H D I h
  refine wpAny_Assign_stores (thn (he pins s σ H _ I h) fun v s1 ⟨x, H1, I1, r1, q1⟩ => ?_) hs hw
  rw [h1]
  exact thn (hg pins s1 σ H1 x v _ I1 r1 q1) fun _ s2 q => q
/-- name = value -/
theorem ps_set {i : Nat} {x : Str} {e : Expr} {te : TE} {pos' : Pos} (hN : X.N.Nodup) (hi : X.N[i]? = some x) (hx : Loc X.env.scope x) (he : PE X e te) (hs : swapsWith e (some (.Name x pos')) pos.line X.env = pure false := by rfl) (hf : X.fn x = true ∨ X.env.scope.names.lookup x = some .local := by first | exact .inl rfl | exact .inr rfl | assumption) :
    PS X (.Assign [.Name x pos'] e pos) (tAsg te (gName i)) := by
  intro pins s σ H D I h
  refine wpAny_Assign_Name (thn (he pins s σ H _ I h) fun v s1 ⟨y, H1, I1, r1, q1⟩ => ?_) hs
  exact store_ok I1 hN hi hx r1 (fun s2 I2 => ⟨_, H1, I2, q1⟩) hf
/-- a, b = x, y with plain local names: stored from the right; the pair itself is not tracked (the opening rows as in PyProof/Rows/TupAssign.lean:23) -/
def tPar (i j : Nat) (ta : TA) : TS := fun D σ H => ta σ H fun vs H1 => ∃ v w, vs = [v, w] ∧ D.nx ((σ.set i (some v)).set j (some w)) H1
theorem ps_par {i j : Nat} {x y : Str} {a b : Expr} {ta : TA} {px py pt : Pos} {kt k2 pt2} (hc : X.calm = true) (hN : X.N.Nodup) (hi : X.N[i]? = some x) (hj : X.N[j]? = some y) (hij : i ≠ j)
    (hx : X.env.scope.names.lookup x = some .local) (hy : X.env.scope.names.lookup y = some .local) (ha : PA X [a, b] ta)
    (hw : swappedStores [.Tuple [.Name x px, .Name y py] kt pt] (.Tuple [a, b] k2 pt2) X.env = pure (some [x, y]))
    (hs : swapsWithSole [.Tuple [.Name x px, .Name y py] kt pt] (.Tuple [a, b] k2 pt2) pos.line X.env = pure false := by rfl) :
    PS X (.Assign [.Tuple [.Name x px, .Name y py] kt pt] (.Tuple [a, b] k2 pt2) pos) (tPar i j ta) := by
  intro pins s σ H D I h
  rw [exec_Assign_arm]
  refine wpAny_bind (wpAny_standAt ?_)
  rw [hs]
  refine wpAny_bind (wpAny_pure ?_)
  rw [if_neg (by decide)]
  refine wpAny_bind (Tuple_ (thn (ha _ pins s σ H _ I h) fun us s1 ⟨vs, H1, I1, r1, q1⟩ => ?_))
  obtain ⟨v, w, e1, q1⟩ := q1
  subst e1
  obtain ⟨u1, u2, rfl, rv, rw'⟩ : ∃ u1 u2, us = [u1, u2] ∧ RelV v u1 ∧ RelV w u2 := by
    cases r1 with
    | cons p q =>
      cases q with
      | cons p' q' =>
        cases q'
        exact ⟨_, _, rfl, p, p'⟩
  refine wpAny_newObj_type ?_ (by show 2 ≤ sizeLine; decide)
  have I2 : Inv X pins σ H1 { s1 with heap := s1.heap.push { cls := .type "tuple", data := .seq [u1, u2].toArray } } := I1.kept (t' := s1.toks) fun b o e => Heap.get?_push_of_some _ e
  rw [hw]
  refine wpAny_bind (wpAny_pure ?_)
  show wpAny (model X.prog X.w) X.A (do rule "assign.swapped-stores"; let items ← unpackItems (.ref s1.heap.objs.size) 2 none; assignInOrder [fun v => bindName X.env y v, fun v => bindName X.env x v] items.reverse; pure Flow.next) _ _ _
  refine wpAny_bind (wpAny_rule (wpAny_bind (unpackItems_tuple (items := #[u1, u2]) (I.ok.hd hc) (IsTup.new s1.heap _) fun h' hx' => ?_)))
  have I3 := I2.kept (h' := h') (t' := s1.toks) fun b o e => hx' b o (Nat.ne_of_lt (Heap.lt_size e)) e
  show wpAny _ _ (assignInOrder [fun v => bindName X.env y v, fun v => bindName X.env x v] [u2, u1] >>= fun _ => pure Flow.next) _ _ _
  refine wpAny_bind (assignInOrder_cons (wpAny_bindName (store_ok I3 hN hj (.inl hy) rw' (fun s2 I4 => ?_) (.inr hy))))
  refine assignInOrder_cons (wpAny_bindName (store_ok I4 hN hi (.inl hx) rv (fun s3 I5 => assignInOrder_nil (wpAny_pure ?_)) (.inr hx)))
  rw [List.set_comm _ _ (Ne.symm hij)] at I5
  exact ⟨_, H1, I5, q1⟩
/-- name op= e -/
def tAug (i : Nat) (te : TE) (ti : TIp) : TS := fun D σ H => ∃ x, σ[i]? = some (some x) ∧ te σ H fun y H1 => ti x y H1 fun z H2 => D.nx (σ.set i (some z)) H2
theorem ps_aug {i : Nat} {x : Str} {e : Expr} {te : TE} {op : Operator} {ti : TIp} {pos' : Pos} (hN : X.N.Nodup) (hi : X.N[i]? = some x) (hx : Loc X.env.scope x) (he : PE X e te) (ho : PIp X op ti) (hf : X.fn x = true ∨ X.env.scope.names.lookup x = some .local := by first | exact .inl rfl | exact .inr rfl | assumption) :
    PS X (.AugAssign (.Name x pos') op e pos) (tAug i te ti) := by
  intro pins s σ H D I h
  obtain ⟨v, e1, h⟩ := h
  obtain ⟨m, hn, hl⟩ := I.loc
  have vis : Vis X.env.scope x := by rcases hx with k | k; exact .inl k; exact .inr (.inl k)
  obtain ⟨u, r, l⟩ := hl i x v hi e1 vis
  refine wpAny_AugAssign_Name ?_
  have go : wpAny (model X.prog X.w) X.A (eval e X.env) (fun w s₂ => wpAny (model X.prog X.w) X.A (inplaceOp op u w) (fun r s₃ => wpAny (model X.prog X.w) X.A (storeName X.env x r) (fun _ => SP X pins D .next) X.xe s₃) X.xe s₂) X.xe s := by
    refine thn (he pins s σ H _ I h) fun w s1 ⟨y, H1, I1, r1, q1⟩ => ?_
    refine thn (ho pins s1 σ H1 v y u w _ I1 r r1 q1) fun z s2 ⟨zv, H2, I2, r2, q2⟩ => ?_
    exact store_ok I2 hN hi hx r2 (fun s3 I3 => ⟨_, H2, I3, q2⟩) hf
  rcases l with ⟨hk, hm⟩ | ⟨hk, c, hc, hcell⟩
  · exact wpAny_loadName_local I.ok.kind hk hn hm go
  · rcases hk with hk | hk
    · exact wpAny_loadName_cell I.ok.kind hk hc hcell go
    · rcases hx with k | k
      · have : X.env.scope.names.lookup x = some .free := hk
        rw [k] at this; cases this
      · have : X.env.scope.names.lookup x = some .free := hk
        rw [k] at this; cases this
/-- o[i] op= e -/
def tAugS (to ti te : TE) (tget : V → V → Hp → VK → Prop) (tip : TIp) (tset : TSet) : TS := fun D σ H => to σ H fun o H1 => ti σ H1 fun i H2 => tget o i H2 fun x H3 => te σ H3 fun y H4 => tip x y H4 fun z H5 => tset o i z H5 fun H6 => D.nx σ H6
/-- o[i], by values -/
def PGet (X : Cx) (t : V → V → Hp → VK → Prop) : Prop :=
  ∀ (pins : List (Addr × Obj)) (s : Shared) (σ : St) (H : Hp) (o i : V) (ov iv : Value) (Q : VK), Inv X pins σ H s → RelV o ov → RelV i iv → t o i H Q →
    wpAny (model X.prog X.w) X.A (getItem ov iv) (EP X pins σ Q) X.xe s
theorem ps_augS {o i e : Expr} {to ti te : TE} {tget : V → V → Hp → VK → Prop} {tip : TIp} {tset : TSet} {op : Operator} {tpos : Pos} (ho : PE X o to) (hi : PE X i ti) (hg : PGet X tget) (he : PE X e te) (hp : PIp X op tip) (hs : PSet X tset)
    (ha : ∀ ov iv new, augStore i ov iv new = (do holding [new, ov, iv] (setItem ov iv new); release [new, ov, iv] []; pure .next) := by intros; rfl) : PS X (.AugAssign (.Subscript o i tpos) op e pos) (tAugS to ti te tget tip tset) := by
  intro pins s σ H D I h
  refine wpAny_AugAssign_SubscriptAny (thn (ho pins s σ H _ I h) fun ov s1 ⟨x1, H1, I1, r1, q1⟩ => ?_) ha
  refine thn (hi pins s1 σ H1 _ I1 q1) fun iv s2 ⟨x2, H2, I2, r2, q2⟩ => ?_
  refine thn (hg pins s2 σ H2 x1 x2 ov iv _ I2 r1 r2 q2) fun old s3 ⟨x3, H3, I3, r3, q3⟩ => ?_
  refine thn (he pins s3 σ H3 _ I3 q3) fun v s4 ⟨x4, H4, I4, r4, q4⟩ => ?_
  refine thn (hp pins s4 σ H4 x3 x4 old v _ I4 r3 r4 q4) fun new s5 ⟨x5, H5, I5, r5, q5⟩ => ?_
  exact thn (hs pins s5 σ H5 x1 x2 x5 ov iv new _ I5 r1 r2 r5 q5) fun _ s6 ⟨H6, I6, q6⟩ => ⟨σ, H6, I6, q6⟩
/-- ints -/
def ipI (f : Int → Int → Int) : TIp := fun x y H Q => ∃ i j, x = .int i ∧ y = .int j ∧ Q (.int (f i j)) H
theorem ip_add : PIp X .Add (ipI fun i j => i + j) := by
  intro pins s σ H x y v u Q I r1 r2 h
  obtain ⟨i, j, e1, e2, q⟩ := h
  subst e1; subst e2
  obtain ⟨t, rfl⟩ := r1
  obtain ⟨t', rfl⟩ := r2
  exact iadd_int ⟨.int _, H, I.tok _, ⟨_, rfl⟩, q⟩
theorem ip_sub : PIp X .Sub (ipI fun i j => i - j) := by
  intro pins s σ H x y v u Q I r1 r2 h
  obtain ⟨i, j, e1, e2, q⟩ := h
  subst e1; subst e2
  obtain ⟨t, rfl⟩ := r1
  obtain ⟨t', rfl⟩ := r2
  exact isub_int ⟨.int _, H, I.tok _, ⟨_, rfl⟩, q⟩
end

/-! ### while -/
section
variable {X : Cx} {pos : Pos}
/-- the invariant W with its measure -/
def tWhile (c : TT) (tb : TS) : TS := fun D σ H => ∃ W : Nat → St → Hp → Prop, (∃ m, W m σ H) ∧ ∀ m σ H, W m σ H →
  c σ H fun b H1 => if b = true then ∃ N : St → Hp → Prop, (∀ σ' H', N σ' H' → ∃ m', m' < m ∧ W m' σ' H') ∧ tb { D with nx := N, ct := N, bk := D.nx } σ H1 else D.nx σ H1
theorem ps_while {c : Expr} {body : List Stmt} {tc : TT} {tb : TS} (hp : PassesOwn (model X.prog X.w) X.A X.env X.xe) (hc : PT X c tc) (hb : PSs X body tb) : PS X (.While c body [] pos) (tWhile tc tb) := by
  intro pins s σ H D I h
  obtain ⟨W, ⟨m0, w0⟩, turn⟩ := h
  refine wpAny_While (codeAny_whileLoop (fun n s' => ∃ σ' H', Inv X pins σ' H' s' ∧ W n σ' H') ?_ m0 ⟨σ, H, I, w0⟩)
  rintro n s1 ⟨σ1, H1, I1, w1⟩
  refine wpAny_passesOwn hp (thn (hc pins s1 σ1 H1 _ I1 (turn n σ1 H1 w1)) fun b s2 ⟨H2, I2, q2⟩ => ?_)
  cases b with
  | true =>
    obtain ⟨N, hN, q2⟩ := q2
    rw [if_pos rfl]
    refine wpAny_passesOwn hp (thn (hb pins s2 σ1 H2 _ I2 q2) fun f s3 q3 => ?_)
    cases f with
    | next =>
      obtain ⟨σ3, H3, I3, n3⟩ := q3
      obtain ⟨m', hm, w3⟩ := hN σ3 H3 n3
      exact ⟨m', hm, σ3, H3, I3, w3⟩
    | cont =>
      obtain ⟨σ3, H3, I3, n3⟩ := q3
      obtain ⟨m', hm, w3⟩ := hN σ3 H3 n3
      exact ⟨m', hm, σ3, H3, I3, w3⟩
    | brk => exact q3
    | ret v => exact q3
  | false =>
    rw [if_neg Bool.false_ne_true]
    exact wpAny_execs_nil ⟨σ1, H2, I2, q2⟩
end

/-! ### what a loop or a comprehension walks -/
/-- at turn i: it yields x (the heap may grow), or it stops -/
structure It where
  go : Nat → Hp → Prop
  yld : Nat → Hp → V → Hp → Prop
  stop : Nat → Hp → Prop
/-- the iterator's own objects may turn: they are not the frame's, not pinned, younger than the entry (or a comprehension's own) -/
def FpOk (X : Cx) (pins : List (Addr × Obj)) (H : Hp) (b : Addr) : Prop :=
  H b = none ∧ b ≠ X.env.locals ∧ b ∉ X.fs ∧ (b ∈ X.ex ∨ X.s₀.heap.objs.size ≤ b) ∧ (∀ x c, X.env.cells.lookup x = some c → c ≠ b) ∧ ∀ p ∈ X.pn ++ pins, p.1 ≠ b
theorem Inv.fpOk {X : Cx} {pins : List (Addr × Obj)} {σ : St} {H H' : Hp} {s : Shared} {b : Addr} (I : Inv X pins σ H s) (hb : s.heap.objs.size ≤ b) (hn : H' b = none) : FpOk X pins H' b := by
  refine ⟨hn, Nat.ne_of_gt (Nat.lt_of_lt_of_le I.lt hb), I.nofs hb, .inr (Nat.le_trans I.sz hb), fun x c e z => ?_, fun p hp z => ?_⟩
  · obtain ⟨v, q⟩ := I.cell x c e
    exact absurd (Nat.lt_of_lt_of_le q.lt (by rw [z]; exact hb)) (Nat.lt_irrefl _)
  · exact absurd (Nat.lt_of_lt_of_le (Heap.lt_size (I.pin p hp).1) (by rw [z]; exact hb)) (Nat.lt_irrefl _)
structure Turn (P : Program) (w : World) (K : PySem.W.Frag) (tg : Expr) (J : It) (fp : List Addr) (it : Addr) (tn : Nat → Heap → Prop) : Prop where
  mem : it ∈ fp
  obj : ∀ i h, tn i h → ∀ b ∈ fp, ∃ o, h.get? b = some o ∧ ∀ v, o.data ≠ .cell v
  keep : ∀ i h h', tn i h → (∀ b ∈ fp, ∀ o, h.get? b = some o → h'.get? b = some o) → tn i h'
  item : ∀ (X : Cx), X.prog = P → X.w = w → X.K = K → X.calm = true → ∀ (i : Nat) (pins : List (Addr × Obj)) (s : Shared) (σ : St) (H : Hp) (E : Value → Shared → Prop), Inv X pins σ H s → (∀ b ∈ fp, FpOk X pins H b) → tn i s.heap → J.go i H →
    wpAny (model P w) X.A (pyNext (.ref it)) (fun r s1 => ∃ u, r = some u ∧
      wpAny (model P w) X.A (letOwnedTupleGo tg (.ref it) u) (fun _ s2 => ∃ x H', Inv X pins σ H' s2 ∧ RelV x u ∧ J.yld i H x H' ∧ tn (i + 1) s2.heap ∧ ∀ b ∈ fp, H' b = none) E s1) E s
  done : ∀ (X : Cx), X.prog = P → X.w = w → X.K = K → X.calm = true → ∀ (i : Nat) (pins : List (Addr × Obj)) (s : Shared) (σ : St) (H : Hp) (E : Value → Shared → Prop), Inv X pins σ H s → (∀ b ∈ fp, FpOk X pins H b) → tn i s.heap → J.stop i H →
    wpAny (model P w) X.A (pyNext (.ref it)) (fun r s1 => r = none ∧ Inv X pins σ H s1) E s
  self : ∀ (A : Around) (i : Nat) (s : Shared) (Q : Value → Shared → Prop) (E : Value → Shared → Prop), tn i s.heap → Q (.ref it) s → wpAny (model P w) A (pyIter (.ref it)) Q E s
abbrev TI := St → Hp → (It → Hp → Prop) → Prop
/-- an iterator has come -/
def PIE (X : Cx) (pins : List (Addr × Obj)) (σ : St) (tg : Expr) (R : It → Hp → Prop) (itv : Value) (s2 : Shared) : Prop :=
  ∃ (it : Addr) (fp : List Addr) (tn : Nat → Heap → Prop) (J : It) (H' : Hp), itv = .ref it ∧ Inv X pins σ H' s2 ∧ Turn X.prog X.w X.K tg J fp it tn ∧ tn 0 s2.heap ∧ (∀ b ∈ fp, FpOk X pins H' b) ∧ R J H'
def PI (X : Cx) (tg iter : Expr) (wi : TI) : Prop :=
  ∀ (pins : List (Addr × Obj)) (s : Shared) (σ : St) (H : Hp) (R : It → Hp → Prop), Inv X pins σ H s → wi σ H R →
    wpAny (model X.prog X.w) X.A (eval iter X.env) (fun v s1 => wpAny (model X.prog X.w) X.A (pyIter v) (PIE X pins σ tg R) X.xe s1) X.xe s

/-- the step ahead of the store is nothing for an iterator that keeps no tuple -/
theorem go_of {M : Model} {A : Around} {E : Value → Shared → Prop} {s : Shared} {tg : Expr} {it : Addr} {u : Value} {o : Obj} {n : String} {vs : Array Value} {Q : Unit → Shared → Prop} (ho : s.heap.get? it = some o) (hc : o.cls = .type n) (hd : o.data = .fields vs)
    (hn : ["enumerate", "zip", "dict_itemiterator", "dict_reverseitemiterator", "odict_iterator", "itertools.zip_longest", "itertools.pairwise"].contains n = false) (hQ : Q () s) : wpAny M A (letOwnedTupleGo tg (.ref it) u) Q E s := by
  unfold letOwnedTupleGo
  cases tg <;> first
    | exact wpAny_pure hQ
    | (cases u <;> first
        | exact wpAny_pure hQ
        | (refine wpAny_bind (wpAny_load ho ?_)
           rw [hc, hd]
           show wpAny M A (if (["enumerate", "zip", "dict_itemiterator", "dict_reverseitemiterator", "odict_iterator", "itertools.zip_longest", "itertools.pairwise"].contains n && vs[0]? == some (rawInt _)) = true then _ else _) Q E s
           rw [if_neg (by intro h; rw [hn, Bool.false_and] at h; cases h)]
           exact wpAny_pure hQ))

/-- the list at a, as it stands at each turn (a loop may append to it) -/
def Itl (K : PySem.W.Frag) (a : Addr) : It :=
  ⟨fun i H => ∃ xs x, SqL K H a xs ∧ xs[i]? = some x, fun i H x H' => H' = H ∧ ∀ xs, SqL K H a xs → xs[i]? = some x, fun i H => ∃ xs, SqL K H a xs ∧ xs.length ≤ i⟩
def Itt (K : PySem.W.Frag) (a : Addr) : It :=
  ⟨fun i H => ∃ xs x, SqT K H a xs ∧ xs[i]? = some x, fun i H x H' => H' = H ∧ ∀ xs, SqT K H a xs → xs[i]? = some x, fun i H => ∃ xs, SqT K H a xs ∧ xs.length ≤ i⟩
/-- lo, lo + 1, .. (n of them) -/
def Itr (lo : Int) (n : Nat) : It := ⟨fun i _ => i < n, fun i H x H' => H' = H ∧ x = .int (lo + i), fun i _ => n ≤ i⟩
theorem turn_list {P : Program} {w : World} {K : PySem.W.Frag} {tg : Expr} (a it : Addr) : Turn P w K tg (Itl K a) [it] it (fun i h => h.IsListIter it a i) where
  mem := by simp
  obj := fun i h st b hb => by
    have e : b = it := by simpa using hb
    subst e
    obtain ⟨o, e, c, d⟩ := st
    exact ⟨o, e, fun v z => by rw [d] at z; cases z⟩
  keep := fun i h h' st k => st.at fun o e => k it (by simp) o e
  item := by
    intro X hP hw hK hc i pins s σ H E I hf st hg
    subst hP hw hK
    obtain ⟨xs, x, hq, hx⟩ := hg
    obtain ⟨its, rv, p, hz⟩ := I.list hq
    obtain ⟨u, hu, ru⟩ := rv.get hx
    obtain ⟨f0, f1, f2, f3, f4, f5⟩ := hf it (by simp)
    refine wpAny_pyNext_list_item st p.isList (x := u) (by simpa using hu) fun h' st' sb => ?_
    have I1 : Inv X pins σ H { s with heap := h' } := I.turned (t' := s.toks) (fun b o hb e => (sb.2 b hb).trans e) f0 f1 f3 f4 f5
    obtain ⟨o, e, c, d⟩ := id st'
    exact ⟨u, rfl, go_of (s := { s with heap := h' }) e c d (by decide) ⟨x, H, I1, ru, ⟨rfl, fun ys hy => by rw [I.list_inj hy hq]; exact hx⟩, st', fun b hb => (hf b hb).1⟩⟩
  done := by
    intro X hP hw hK hc i pins s σ H E I hf st hg
    subst hP hw hK
    obtain ⟨xs, hq, hx⟩ := hg
    obtain ⟨its, rv, p, hz⟩ := I.list hq
    obtain ⟨f0, f1, f2, f3, f4, f5⟩ := hf it (by simp)
    have hl := rv.length
    exact wpAny_pyNext_list_end (I.ok.hd hc) st p.isList (by simp; omega) fun h' eb => ⟨rfl, I.turned (t' := s.toks) (fun b o hb e => eb b o hb e) f0 f1 f3 f4 f5⟩
  self := fun _ _ _ _ _ st h => wpAny_pyIter_listiter st h
theorem turn_tuple {P : Program} {w : World} {K : PySem.W.Frag} {tg : Expr} (a it : Addr) : Turn P w K tg (Itt K a) [it] it (fun i h => h.IsTupleIter it a i) where
  mem := by simp
  obj := fun i h st b hb => by
    have e : b = it := by simpa using hb
    subst e
    obtain ⟨o, e, c, d⟩ := st
    exact ⟨o, e, fun v z => by rw [d] at z; cases z⟩
  keep := fun i h h' st k => st.at fun o e => k it (by simp) o e
  item := by
    intro X hP hw hK hc i pins s σ H E I hf st hg
    subst hP hw hK
    obtain ⟨xs, x, hq, hx⟩ := hg
    obtain ⟨its, rv, p, hz⟩ := I.tuple hq
    obtain ⟨u, hu, ru⟩ := rv.get hx
    obtain ⟨f0, f1, f2, f3, f4, f5⟩ := hf it (by simp)
    refine wpAny_pyNext_tuple_item st (show s.heap.IsTuple a its.toArray from p) (x := u) (by simpa using hu) fun h' st' sb => ?_
    have I1 : Inv X pins σ H { s with heap := h' } := I.turned (t' := s.toks) (fun b o hb e => (sb.2 b hb).trans e) f0 f1 f3 f4 f5
    obtain ⟨o, e, c, d⟩ := id st'
    exact ⟨u, rfl, go_of (s := { s with heap := h' }) e c d (by decide) ⟨x, H, I1, ru, ⟨rfl, fun ys hy => by rw [I.tuple_inj hy hq]; exact hx⟩, st', fun b hb => (hf b hb).1⟩⟩
  done := by
    intro X hP hw hK hc i pins s σ H E I hf st hg
    subst hP hw hK
    obtain ⟨xs, hq, hx⟩ := hg
    obtain ⟨its, rv, p, hz⟩ := I.tuple hq
    obtain ⟨f0, f1, f2, f3, f4, f5⟩ := hf it (by simp)
    have hl := rv.length
    exact wpAny_pyNext_tuple_end (I.ok.hd hc) st (show s.heap.IsTuple a its.toArray from p) (by simp; omega) fun h' eb => ⟨rfl, I.turned (t' := s.toks) (fun b o hb e => eb b o hb e) f0 f1 f3 f4 f5⟩
  self := fun _ _ _ _ _ st h => wpAny_pyIter_tupleiter st h
theorem turn_range {P : Program} {w : World} {K : PySem.W.Frag} {tg : Expr} (it : Addr) (lo : Int) (n : Nat) : Turn P w K tg (Itr lo n) [it] it (fun i h => IsRangeIter h it (lo + (i : Nat) * 1) ((n : Int) - (i : Nat)) 1) where
  mem := by simp
  obj := fun i h st b hb => by
    have e : b = it := by simpa using hb
    subst e
    exact ⟨_, st, fun v z => by
      have z' : Data.fields _ = Data.cell v := z
      cases z'⟩
  keep := fun i h h' st k => k it (by simp) _ st
  item := by
    intro X hP hw hK hc i pins s σ H E I hf st hg
    subst hP hw hK
    obtain ⟨f0, f1, f2, f3, f4, f5⟩ := hf it (by simp)
    have W := Walks.range (prog := X.prog) (w := X.w) (I.ok.hd hc) it lo 1 n
    refine W.item i s _ _ hg st fun v h' tk hv st' kk => ?_
    obtain ⟨t, rfl⟩ := hv
    have I1 : Inv X pins σ H { s with heap := h', toks := tk } := I.turned (fun b o hb e => kk b o (by simpa using hb) e) f0 f1 f3 f4 f5
    refine ⟨_, rfl, go_of (s := { s with heap := h', toks := tk }) (n := "range_iterator") st' rfl rfl (by decide) ⟨.int (lo + i), H, I1, ⟨t, ?_⟩, ⟨rfl, rfl⟩, st', fun b hb => (hf b hb).1⟩⟩
    rw [Int.mul_one]
  done := by
    intro X hP hw hK hc i pins s σ H E I hf st hg
    subst hP hw hK
    obtain ⟨f0, f1, f2, f3, f4, f5⟩ := hf it (by simp)
    exact wpAny_pyNext_range_end (I.ok.hd hc) st (by have : n ≤ i := hg; omega) fun h' eb => ⟨rfl, I.turned (t' := s.toks) (fun b o hb e => eb b o hb e) f0 f1 f3 f4 f5⟩
  self := fun _ _ _ _ _ st h => wpAny_pyIter_rangeiter st h
end L2

namespace L2
open PySem PySem.Spec PyProof.Rows
section
variable {X : Cx} {tg : Expr}
def iList (K : PySem.W.Frag) (tl : TE) : TI := fun σ H R => tl σ H fun x H1 => ∃ a, x = .ref a ∧ (∃ xs, SqL K H1 a xs) ∧ R (Itl K a) H1
def iTup (K : PySem.W.Frag) (tl : TE) : TI := fun σ H R => tl σ H fun x H1 => ∃ a, x = .ref a ∧ (∃ xs, SqT K H1 a xs) ∧ R (Itt K a) H1
theorem pi_list {l : Expr} {tl : TE} (hl : PE X l tl) : PI X tg l (iList X.K tl) := by
  intro pins s σ H R I h
  refine thn (hl pins s σ H _ I h) fun v s1 ⟨x, H1, I1, r1, q1⟩ => ?_
  obtain ⟨a, e, ⟨xs, hq⟩, q⟩ := q1
  subst e
  cases r1
  obtain ⟨its, rv, p, hz⟩ := I1.list hq
  refine wpAny_pyIter_list p.isList ?_
  refine ⟨s1.heap.objs.size, [s1.heap.objs.size], _, _, H1, rfl, I1.kept (t' := s1.toks) fun b o e => Heap.get?_push_of_some _ e, turn_list a _, ⟨_, Heap.get?_push_size _ rfl, rfl, rfl⟩, fun b hb => ?_, q⟩
  have e : b = s1.heap.objs.size := by simpa using hb
  subst e
  exact I1.fpOk (Nat.le_refl _) (I1.hok.fresh (Nat.le_refl _))
theorem pi_tup {l : Expr} {tl : TE} (hl : PE X l tl) : PI X tg l (iTup X.K tl) := by
  intro pins s σ H R I h
  refine thn (hl pins s σ H _ I h) fun v s1 ⟨x, H1, I1, r1, q1⟩ => ?_
  obtain ⟨a, e, ⟨xs, hq⟩, q⟩ := q1
  subst e
  cases r1
  obtain ⟨its, rv, p, hz⟩ := I1.tuple hq
  refine wpAny_pyIter_tuple (show s1.heap.IsTuple a its.toArray from p) ?_
  refine ⟨s1.heap.objs.size, [s1.heap.objs.size], _, _, H1, rfl, I1.kept (t' := s1.toks) fun b o e => Heap.get?_push_of_some _ e, turn_tuple a _, ⟨_, Heap.get?_push_size _ rfl, rfl, rfl⟩, fun b hb => ?_, q⟩
  have e : b = s1.heap.objs.size := by simpa using hb
  subst e
  exact I1.fpOk (Nat.le_refl _) (I1.hok.fresh (Nat.le_refl _))
/-- a range object just made, walked -/
theorem range_it {pins : List (Addr × Obj)} {σ : St} {H : Hp} {s : Shared} {R : It → Hp → Prop} {E : Value → Shared → Prop} {lo hi : Int} {t u v : Tok} {tk : Nat} (I : Inv X pins σ H s) (h1 : -(2 ^ 62) ≤ lo) (h2 : lo < 2 ^ 62) (h3 : -(2 ^ 62) ≤ hi) (h4 : hi < 2 ^ 62)
    (q : R (Itr lo (hi - lo).toNat) H) : wpAny (model X.prog X.w) X.A (pyIter (.ref s.heap.objs.size)) (PIE X pins σ tg R) E { s with heap := s.heap.push { cls := .type "range", data := .fields #[.int lo t, .int hi u, .int 1 v] }, toks := tk } := by
  refine wpAny_pyIter_range (IsRange.new ..) (small_one h1 h2 h3 h4) ?_
  have I1 : Inv X pins σ H { s with heap := s.heap.push { cls := .type "range", data := .fields #[.int lo t, .int hi u, .int 1 v] }, toks := tk } := I.kept fun b o e => Heap.get?_push_of_some _ e
  refine ⟨(s.heap.push { cls := .type "range", data := .fields #[.int lo t, .int hi u, .int 1 v] }).objs.size, [(s.heap.push { cls := .type "range", data := .fields #[.int lo t, .int hi u, .int 1 v] }).objs.size], _, _, H, rfl,
    I1.kept (t' := tk) fun b o e => Heap.get?_push_of_some _ e, turn_range _ lo (hi - lo).toNat, ?_, fun b hb => ?_, q⟩
  · have e1 : lo + ((0 : Nat) : Int) * 1 = lo := by simp
    have e2 : (((hi - lo).toNat : Nat) : Int) - ((0 : Nat) : Int) = Builtin.Range.rangeSize lo hi 1 := by rw [rangeSize_one]; split <;> omega
    show IsRangeIter _ _ (lo + ((0 : Nat) : Int) * 1) ((((hi - lo).toNat : Nat) : Int) - ((0 : Nat) : Int)) 1
    rw [e1, e2]
    exact Heap.get?_push_size _ rfl
  · have e : b = (s.heap.push { cls := .type "range", data := .fields #[.int lo t, .int hi u, .int 1 v] }).objs.size := by simpa using hb
    subst e
    exact I1.fpOk (Nat.le_refl _) (I1.hok.fresh (Nat.le_refl _))
def iRng1 (ta : TA) : TI := fun σ H R => ta σ H fun vs H1 => ∃ j : Int, vs = [.int j] ∧ -(2 ^ 62) ≤ j ∧ j < 2 ^ 62 ∧ R (Itr 0 j.toNat) H1
def iRng2 (ta : TA) : TI := fun σ H R => ta σ H fun vs H1 => ∃ i j : Int, vs = [.int i, .int j] ∧ (-(2 ^ 62) ≤ i ∧ i < 2 ^ 62 ∧ -(2 ^ 62) ≤ j ∧ j < 2 ^ 62) ∧ R (Itr i (j - i).toNat) H1
theorem pi_range1 {a : Expr} {ta : TA} {p pos : Pos} (hg : Gl X "range") (hm : X.mg "range" = none) (ha : PA X [a] ta) (hs : starEach [a] X.env = [(false, eval a X.env)] := by rfl) : PI X tg (.Call (.Name "range" p) [a] [] pos) (iRng1 ta) := by
  intro pins s σ H R I h
  refine Call_ (ld_blt I hg hm boot_range (PyProof.Rows.callWith_type1 (thn (ha pos pins s σ H _ I h) fun us s1 ⟨vs, H1, I1, r1, q1⟩ => ?_) hs rfl))
  obtain ⟨j, e, q1, q2, q⟩ := q1
  subst e
  cases r1 with
  | cons r rr =>
    cases rr
    obtain ⟨t, rfl⟩ := r
    exact call_range_1 (range_it I1 (by omega) (by omega) q1 q2 (by simpa using q))
theorem pi_range2 {a b : Expr} {ta : TA} {p pos : Pos} (hg : Gl X "range") (hm : X.mg "range" = none) (ha : PA X [a, b] ta) (hs : starEach [a, b] X.env = [(false, eval a X.env), (false, eval b X.env)] := by rfl) (hs2 : starEach [b] X.env = [(false, eval b X.env)] := by rfl) :
    PI X tg (.Call (.Name "range" p) [a, b] [] pos) (iRng2 ta) := by
  intro pins s σ H R I h
  refine Call_ (ld_blt I hg hm boot_range (PyProof.Rows.callWith_type1 (thn (ha pos pins s σ H _ I h) fun us s1 ⟨vs, H1, I1, r1, q1⟩ => ?_) (by rw [hs, hs2]) (by rw [hs2]; rfl)))
  obtain ⟨i, j, e, ⟨q1, q2, q3, q4⟩, q⟩ := q1
  subst e
  cases r1 with
  | cons r rr =>
    cases rr with
    | cons r' rr =>
      cases rr
      obtain ⟨t, rfl⟩ := r
      obtain ⟨t', rfl⟩ := r'
      exact call_range_2 (range_it I1 q1 q2 q3 q4 q)

/-! ### for -/
/-- W: the invariant by the turn and a measure; N: what the body is to reach -/
def tFor (wi : TI) (g : TG) (tb : TS) : TS := fun D σ H => wi σ H fun J H1 => ∃ W : Nat → Nat → St → Hp → Prop, (∃ m, W 0 m σ H1) ∧ ∀ i m σ H, W i m σ H →
  (J.stop i H ∧ D.nx σ H) ∨ (J.go i H ∧ ∃ N : St → Hp → Prop, (∀ σ' H', N σ' H' → ∃ m', m' < m ∧ W (i + 1) m' σ' H') ∧ ∀ x H', J.yld i H x H' → g x σ H' fun σ2 H2 => tb { D with nx := N, ct := N, bk := D.nx } σ2 H2)
/-- the records at fp as they stand -/
def pinsAt (fp : List Addr) (h : Heap) : List (Addr × Obj) := fp.filterMap fun b => (h.get? b).map fun o => (b, o)
theorem mem_pinsAt {fp : List Addr} {h : Heap} {b : Addr} {o : Obj} (hb : b ∈ fp) (e : h.get? b = some o) : (b, o) ∈ pinsAt fp h := List.mem_filterMap.mpr ⟨b, hb, by rw [e]; rfl⟩
theorem of_pinsAt {fp : List Addr} {h : Heap} {p : Addr × Obj} (hp : p ∈ pinsAt fp h) : p.1 ∈ fp ∧ h.get? p.1 = some p.2 := by
  obtain ⟨b, hb, e⟩ := List.mem_filterMap.mp hp
  cases q : h.get? b with
  | none => rw [q] at e; cases e
  | some o =>
    rw [q] at e
    have e' : (b, o) = p := Option.some.inj e
    subst e'
    exact ⟨hb, q⟩
theorem Inv.pinned {pins : List (Addr × Obj)} {σ : St} {H : Hp} {s : Shared} {fp : List Addr} (I : Inv X pins σ H s) (hf : ∀ b ∈ fp, FpOk X pins H b) (ho : ∀ b ∈ fp, ∃ o, s.heap.get? b = some o ∧ ∀ v, o.data ≠ .cell v) : Inv X (pins ++ pinsAt fp s.heap) σ H s :=
  I.pins_of fun p hp => (List.mem_append.mp hp).elim (fun z => I.pin p (List.mem_append_right _ z)) fun z => by
    obtain ⟨hb, e⟩ := of_pinsAt z
    obtain ⟨f0, f1, f2, _⟩ := hf p.1 hb
    obtain ⟨o, e', d⟩ := ho p.1 hb
    rw [e] at e'; cases e'
    exact ⟨e, f0, f1, f2, d⟩
theorem Inv.unpinned {pins pl : List (Addr × Obj)} {σ : St} {H : Hp} {s : Shared} (I : Inv X (pins ++ pl) σ H s) : Inv X pins σ H s := I.pins_of fun p hp => I.pin p (List.mem_append_right _ (List.mem_append_left _ hp))
theorem ps_for {iter : Expr} {body : List Stmt} {wi : TI} {g : TG} {tb : TS} {pos : Pos} (hp : PassesOwn (model X.prog X.w) X.A X.env X.xe) (hc : X.calm = true) (hi : PI X tg iter wi) (hg : PG X tg g) (hb : PSs X body tb)
    (hs : ∀ x, foldedSetIterable iter X.env x = pure x := by intro _; rfl) : PS X (.For tg iter body [] pos) (tFor wi g tb) := by
  intro pins s σ H D I h
  refine wpAny_For (thn (hi pins s σ H _ I h) fun v s1 h1 => thn h1 fun itv s2 h2 => ?_) hs
  obtain ⟨it, fp, tn, J, H2, e, I2, T, st2, f2, W, ⟨m0, w0⟩, turn⟩ := h2
  subst e
  -- what stays true of the iterator's objects through the loop
  have stat : ∀ {H' : Hp}, (∀ b ∈ fp, H' b = none) → ∀ b ∈ fp, FpOk X pins H' b := fun hn b hb => ⟨hn b hb, (f2 b hb).2⟩
  refine codeAny_forLoop_any (fun n s' => ∃ i σ' H', Inv X pins σ' H' s' ∧ tn i s'.heap ∧ (∀ b ∈ fp, H' b = none) ∧ W i n σ' H') ?_ m0 ⟨0, σ, H2, I2, st2, fun b hb => (f2 b hb).1, w0⟩
  rintro n s3 ⟨i, σ3, H3, I3, st3, fr3, w3⟩
  rcases turn i n σ3 H3 w3 with ⟨stop, qn⟩ | ⟨go, N, hN, step⟩
  · refine wpAny_passesOwn hp (thn (T.done X rfl rfl rfl hc i pins s3 σ3 H3 X.xe I3 (stat fr3) st3 stop) fun r s4 ⟨hr, I4⟩ => ?_)
    subst hr
    exact wpAny_execs_nil ⟨σ3, H3, I4, qn⟩
  · refine wpAny_passesOwn hp (thn (T.item X rfl rfl rfl hc i pins s3 σ3 H3 X.xe I3 (stat fr3) st3 go) fun r s4 ⟨u, hr, h4⟩ => ?_)
    subst hr
    refine wpAny_passesOwn hp (thn h4 fun _ s5 ⟨x, H5, I5, r5, y5, st5, fr5⟩ => ?_)
    have I5' := I5.pinned (stat fr5) (T.obj _ _ st5)
    refine wpAny_passesOwn hp (thn (hg _ s5 σ3 H5 x u _ I5' r5 (step x H5 y5)) fun _ s6 ⟨σ6, H6, I6, q6⟩ => ?_)
    refine wpAny_passesOwn hp (thn (hb _ s6 σ6 H6 _ I6 q6) fun f s7 q7 => ?_)
    have again : ∀ {σ7 : St} {H7 : Hp}, Inv X (pins ++ pinsAt fp s5.heap) σ7 H7 s7 → N σ7 H7 → ∃ m, m < n ∧ ∃ i σ' H', Inv X pins σ' H' s7 ∧ tn i s7.heap ∧ (∀ b ∈ fp, H' b = none) ∧ W i m σ' H' := fun {σ7 H7} I7 n7 => by
      obtain ⟨m', hm, w7⟩ := hN σ7 H7 n7
      refine ⟨m', hm, i + 1, σ7, H7, I7.unpinned, T.keep _ _ _ st5 fun b hb o e => (I7.pin (b, o) (List.mem_append_right _ (List.mem_append_right _ (mem_pinsAt hb e)))).1, fun b hb => ?_, w7⟩
      obtain ⟨o, e, d⟩ := T.obj _ _ st5 b hb
      exact (I7.pin (b, o) (List.mem_append_right _ (List.mem_append_right _ (mem_pinsAt hb e)))).2.1
    cases f with
    | next => obtain ⟨σ7, H7, I7, n7⟩ := q7; exact again I7 n7
    | cont => obtain ⟨σ7, H7, I7, n7⟩ := q7; exact again I7 n7
    | brk => obtain ⟨σ7, H7, I7, q7⟩ := q7; exact ⟨σ7, H7, I7.unpinned, q7⟩
    | ret v => obtain ⟨x7, σ7, H7, I7, r7, q7⟩ := q7; exact ⟨x7, σ7, H7, I7.unpinned, r7, q7⟩
end

/-! ### the forms one uses -/
/-- over a list that the body leaves as it is -/
theorem for_list {K : PySem.W.Frag} {a : Addr} {xs : List V} {g : TG} {tb : TS} {D : Ends} {σ : St} {H : Hp} (Pv : Nat → St → Hp → Prop) (h0 : Pv 0 σ H) (hl : ∀ i σ H, i ≤ xs.length → Pv i σ H → SqL K H a xs)
    (hs : ∀ i x σ H, xs[i]? = some x → Pv i σ H → g x σ H fun σ2 H2 => tb { D with nx := Pv (i + 1), ct := Pv (i + 1), bk := D.nx } σ2 H2) (hd : ∀ σ H, Pv xs.length σ H → D.nx σ H) :
    ∃ W : Nat → Nat → St → Hp → Prop, (∃ m, W 0 m σ H) ∧ ∀ i m σ H, W i m σ H →
      ((Itl K a).stop i H ∧ D.nx σ H) ∨ ((Itl K a).go i H ∧ ∃ N : St → Hp → Prop, (∀ σ' H', N σ' H' → ∃ m', m' < m ∧ W (i + 1) m' σ' H') ∧ ∀ x H', (Itl K a).yld i H x H' → g x σ H' fun σ2 H2 => tb { D with nx := N, ct := N, bk := D.nx } σ2 H2) := by
  refine ⟨fun i m σ H => m = xs.length - i ∧ i ≤ xs.length ∧ Pv i σ H, ⟨xs.length, by simp, Nat.zero_le _, h0⟩, ?_⟩
  rintro i m σ H ⟨rfl, hi, p⟩
  have q := hl i σ H hi p
  by_cases hlt : i < xs.length
  · refine .inr ⟨⟨xs, xs[i], q, by simp [hlt]⟩, Pv (i + 1), fun σ' H' p' => ⟨xs.length - (i + 1), by omega, rfl, hlt, p'⟩, fun x H' y => ?_⟩
    obtain ⟨e, y⟩ := y
    subst e
    exact hs i x σ _ (y xs q) p
  · have e : i = xs.length := by omega
    subst e
    exact .inl ⟨⟨xs, q, Nat.le_refl _⟩, hd σ H p⟩
theorem for_tup {K : PySem.W.Frag} {a : Addr} {xs : List V} {g : TG} {tb : TS} {D : Ends} {σ : St} {H : Hp} (Pv : Nat → St → Hp → Prop) (h0 : Pv 0 σ H) (hl : ∀ i σ H, i ≤ xs.length → Pv i σ H → SqT K H a xs)
    (hs : ∀ i x σ H, xs[i]? = some x → Pv i σ H → g x σ H fun σ2 H2 => tb { D with nx := Pv (i + 1), ct := Pv (i + 1), bk := D.nx } σ2 H2) (hd : ∀ σ H, Pv xs.length σ H → D.nx σ H) :
    ∃ W : Nat → Nat → St → Hp → Prop, (∃ m, W 0 m σ H) ∧ ∀ i m σ H, W i m σ H →
      ((Itt K a).stop i H ∧ D.nx σ H) ∨ ((Itt K a).go i H ∧ ∃ N : St → Hp → Prop, (∀ σ' H', N σ' H' → ∃ m', m' < m ∧ W (i + 1) m' σ' H') ∧ ∀ x H', (Itt K a).yld i H x H' → g x σ H' fun σ2 H2 => tb { D with nx := N, ct := N, bk := D.nx } σ2 H2) := by
  refine ⟨fun i m σ H => m = xs.length - i ∧ i ≤ xs.length ∧ Pv i σ H, ⟨xs.length, by simp, Nat.zero_le _, h0⟩, ?_⟩
  rintro i m σ H ⟨rfl, hi, p⟩
  have q := hl i σ H hi p
  by_cases hlt : i < xs.length
  · refine .inr ⟨⟨xs, xs[i], q, by simp [hlt]⟩, Pv (i + 1), fun σ' H' p' => ⟨xs.length - (i + 1), by omega, rfl, hlt, p'⟩, fun x H' y => ?_⟩
    obtain ⟨e, y⟩ := y
    subst e
    exact hs i x σ _ (y xs q) p
  · have e : i = xs.length := by omega
    subst e
    exact .inl ⟨⟨xs, q, Nat.le_refl _⟩, hd σ H p⟩
theorem for_range {lo : Int} {n : Nat} {g : TG} {tb : TS} {D : Ends} {σ : St} {H : Hp} (Pv : Nat → St → Hp → Prop) (h0 : Pv 0 σ H)
    (hs : ∀ i σ H, i < n → Pv i σ H → g (.int (lo + i)) σ H fun σ2 H2 => tb { D with nx := Pv (i + 1), ct := Pv (i + 1), bk := D.nx } σ2 H2) (hd : ∀ σ H, Pv n σ H → D.nx σ H) :
    ∃ W : Nat → Nat → St → Hp → Prop, (∃ m, W 0 m σ H) ∧ ∀ i m σ H, W i m σ H →
      ((Itr lo n).stop i H ∧ D.nx σ H) ∨ ((Itr lo n).go i H ∧ ∃ N : St → Hp → Prop, (∀ σ' H', N σ' H' → ∃ m', m' < m ∧ W (i + 1) m' σ' H') ∧ ∀ x H', (Itr lo n).yld i H x H' → g x σ H' fun σ2 H2 => tb { D with nx := N, ct := N, bk := D.nx } σ2 H2) := by
  refine ⟨fun i m σ H => m = n - i ∧ i ≤ n ∧ Pv i σ H, ⟨n, by simp, Nat.zero_le _, h0⟩, ?_⟩
  rintro i m σ H ⟨rfl, hi, p⟩
  by_cases hlt : i < n
  · refine .inr ⟨hlt, Pv (i + 1), fun σ' H' p' => ⟨n - (i + 1), by omega, rfl, hlt, p'⟩, fun x H' y => ?_⟩
    obtain ⟨e, y⟩ := y
    subst e y
    exact hs i σ _ hlt p
  · have e : i = n := by omega
    subst e
    exact .inl ⟨Nat.le_refl _, hd σ H p⟩
/-- while, by a word and a measure of the state -/
theorem while_by {c : TT} {tb : TS} {D : Ends} {σ : St} {H : Hp} (Pv : St → Hp → Prop) (μ : St → Hp → Nat) (h0 : Pv σ H)
    (hs : ∀ σ H, Pv σ H → c σ H fun b H1 => if b = true then tb { D with nx := fun σ' H' => Pv σ' H' ∧ μ σ' H' < μ σ H, ct := fun σ' H' => Pv σ' H' ∧ μ σ' H' < μ σ H, bk := D.nx } σ H1 else D.nx σ H1)
    (mono : ∀ σ H Q Q', (∀ b H1, Q b H1 → Q' b H1) → c σ H Q → c σ H Q') : tWhile c tb D σ H := by
  refine ⟨fun m σ H => m = μ σ H ∧ Pv σ H, ⟨_, rfl, h0⟩, ?_⟩
  rintro m σ H ⟨rfl, p⟩
  refine mono σ H _ _ (fun b H1 q => ?_) (hs σ H p)
  cases b with
  | true => exact ⟨_, fun σ' H' ⟨p', l⟩ => ⟨_, l, rfl, p'⟩, q⟩
  | false => exact q
end L2

namespace L2
open PySem PySem.Spec PyProof.Rows

abbrev R2 := V → V → Hp → VK → Prop
/-- a two-place operation on values: f is binaryOp op, inplaceOp op or compareOp op -/
def OpR (X : Cx) (f : Value → Value → Sem Value) (r : R2) : Prop :=
  ∀ (pins : List (Addr × Obj)) (s : Shared) (σ : St) (H : Hp) (x y : V) (v u : Value) (Q : VK), Inv X pins σ H s → RelV x v → RelV y u → r x y H Q →
    wpAny (model X.prog X.w) X.A (f v u) (EP X pins σ Q) X.xe s
/-- a one-place operation -/
def UnR (X : Cx) (f : Value → Sem Value) (r : V → Hp → VK → Prop) : Prop :=
  ∀ (pins : List (Addr × Obj)) (s : Shared) (σ : St) (H : Hp) (x : V) (v : Value) (Q : VK), Inv X pins σ H s → RelV x v → r x H Q →
    wpAny (model X.prog X.w) X.A (f v) (EP X pins σ Q) X.xe s
/-- a call of a value that is known (a builtin, a type) with values -/
def CallR (X : Cx) (f : Value) (r : List V → Hp → VK → Prop) : Prop :=
  ∀ (pins : List (Addr × Obj)) (s : Shared) (σ : St) (H : Hp) (xs : List V) (us : List Value) (Q : VK), Inv X pins σ H s → Vals xs us → r xs H Q →
    wpAny (model X.prog X.w) X.A (call f us) (EP X pins σ Q) X.xe s
/-- a value's truth -/
def TruR (X : Cx) (r : V → Hp → (Bool → Hp → Prop) → Prop) : Prop :=
  ∀ (pins : List (Addr × Obj)) (s : Shared) (σ : St) (H : Hp) (x : V) (v : Value) (Q : Bool → Hp → Prop), Inv X pins σ H s → RelV x v → r x H Q →
    wpAny (model X.prog X.w) X.A (truthy v) (TP X pins σ Q) X.xe s

def tOp (r : R2) (ta tb : TE) : TE := fun σ H Q => ta σ H fun x H1 => tb σ H1 fun y H2 => r x y H2 Q
def tUn (r : V → Hp → VK → Prop) (ta : TE) : TE := fun σ H Q => ta σ H fun x H1 => r x H1 Q
/-- ints in, under C, and a value out -/
def rI (C : Int → Int → Prop) (g : Int → Int → V) : R2 := fun x y H Q => ∃ i j, x = .int i ∧ y = .int j ∧ C i j ∧ Q (g i j) H
def rI0 (g : Int → Int → V) : R2 := fun x y H Q => ∃ i j, x = .int i ∧ y = .int j ∧ Q (g i j) H
def rU (g : Int → V) : V → Hp → VK → Prop := fun x H Q => ∃ i, x = .int i ∧ Q (g i) H

section
variable {X : Cx} {a b c : Expr} {ta tb tc : TE} {pos : Pos}

theorem binT (ha : PE X a ta) (hb : PE X b tb) {pins : List (Addr × Obj)} {s : Shared} {σ : St} {H : Hp} {R : V → V → Hp → Prop} (I : Inv X pins σ H s)
    (h : ta σ H fun x H1 => tb σ H1 fun y H2 => R x y H2) {Q : Value → Shared → Prop} {f : Value → Value → Sem Value}
    (hf : ∀ v u s2 x y H2, Inv X pins σ H2 s2 → RelV x v → RelV y u → R x y H2 → wpAny (model X.prog X.w) X.A (f v u) Q X.xe s2) :
    wpAny (model X.prog X.w) X.A (eval a X.env) (fun v s₁ => wpAny (model X.prog X.w) X.A (eval b X.env) (fun u s₂ => wpAny (model X.prog X.w) X.A (f v u) Q X.xe s₂) X.xe s₁) X.xe s := by
  refine thn (ha pins s σ H _ I h) fun v s1 ⟨x, H1, I1, r1, q1⟩ => ?_
  refine thn (hb pins s1 σ H1 _ I1 q1) fun u s2 ⟨y, H2, I2, r2, q2⟩ => ?_
  exact hf v u s2 x y H2 I2 r1 r2 q2

theorem pe_op {op : Operator} {r : R2} (ho : OpR X (binaryOp op) r) (ha : PE X a ta) (hb : PE X b tb) : PE X (.BinOp a op b pos) (tOp r ta tb) := by
  intro pins s σ H Q I h
  exact wpAny_BinOp (binT ha hb I h fun v u s2 x y H2 I2 rx ry q => ho pins s2 σ H2 x y v u Q I2 rx ry q)
theorem pe_un {op : UnaryOp} {r : V → Hp → VK → Prop} (ho : UnR X (unaryOp op) r) (ha : PE X a ta) : PE X (.UnaryOp op a pos) (tUn r ta) := by
  intro pins s σ H Q I h
  exact UnaryOp_ (thn (ha pins s σ H _ I h) fun v s1 ⟨x, H1, I1, r1, q1⟩ => ho pins s1 σ H1 x v Q I1 r1 q1)
/-- a op= e at a name: the name's slot i -/
theorem augR {op : Operator} {r : R2} (ho : OpR X (inplaceOp op) r) {pins : List (Addr × Obj)} {s : Shared} {σ : St} {H : Hp} {x y : V} {v u : Value} {Q : VK} (I : Inv X pins σ H s)
    (rx : RelV x v) (ry : RelV y u) (q : r x y H Q) : wpAny (model X.prog X.w) X.A (inplaceOp op v u) (EP X pins σ Q) X.xe s := ho pins s σ H x y v u Q I rx ry q

/-! ### ints -/
theorem opI {f : Value → Value → Sem Value} {C : Int → Int → Prop} {g : Int → Int → Int}
    (rule : ∀ (i j : Int) (t u : Tok) (s : Shared) (Q : Value → Shared → Prop) (E : Value → Shared → Prop), C i j → Q (.int (g i j) s.toks) { s with toks := s.toks + 1 } → wpAny (model X.prog X.w) X.A (f (.int i t) (.int j u)) Q E s) :
    OpR X f (rI C fun i j => .int (g i j)) := by
  intro pins s σ H x y v u Q I rx ry h
  obtain ⟨i, j, rfl, rfl, hc, q⟩ := h
  obtain ⟨t, rfl⟩ := rx
  obtain ⟨t', rfl⟩ := ry
  exact rule i j t t' s _ _ hc ⟨.int (g i j), H, I.tok _, ⟨_, rfl⟩, q⟩
theorem opI0 {f : Value → Value → Sem Value} {g : Int → Int → Int}
    (rule : ∀ (i j : Int) (t u : Tok) (s : Shared) (Q : Value → Shared → Prop) (E : Value → Shared → Prop), Q (.int (g i j) s.toks) { s with toks := s.toks + 1 } → wpAny (model X.prog X.w) X.A (f (.int i t) (.int j u)) Q E s) :
    OpR X f (rI0 fun i j => .int (g i j)) := by
  intro pins s σ H x y v u Q I rx ry h
  obtain ⟨i, j, rfl, rfl, q⟩ := h
  obtain ⟨t, rfl⟩ := rx
  obtain ⟨t', rfl⟩ := ry
  exact rule i j t t' s _ _ ⟨.int (g i j), H, I.tok _, ⟨_, rfl⟩, q⟩
theorem opB0 {f : Value → Value → Sem Value} {g : Int → Int → Bool}
    (rule : ∀ (i j : Int) (t u : Tok) (s : Shared) (Q : Value → Shared → Prop) (E : Value → Shared → Prop), Q (.bool (g i j)) s → wpAny (model X.prog X.w) X.A (f (.int i t) (.int j u)) Q E s) :
    OpR X f (rI0 fun i j => .bl (g i j)) := by
  intro pins s σ H x y v u Q I rx ry h
  obtain ⟨i, j, rfl, rfl, q⟩ := h
  obtain ⟨t, rfl⟩ := rx
  obtain ⟨t', rfl⟩ := ry
  exact rule i j t t' s _ _ ⟨.bl (g i j), H, I, rfl, q⟩

def CDiv (i j : Int) : Prop := 0 < j ∧ j < 1073741824
def CDivN (i j : Int) : Prop := j ≠ 0 ∧ j.natAbs < 1073741824
def CPow (i j : Int) : Prop := 0 ≤ j ∧ j ≤ 1000000 ∧ i.natAbs < 2 ^ 64
def CMul (i j : Int) : Prop := (-(2 ^ 64) < i ∧ i < 2 ^ 64) ∨ (-(2 ^ 64) < j ∧ j < 2 ^ 64)
theorem CMul.ok {i j : Int} (h : CMul i j) : IntMulOk i j := by
  rcases h with ⟨h1, h2⟩ | ⟨h1, h2⟩
  · exact .of_left (intBits_le_64 h1 h2)
  · exact .of_right (intBits_le_64 h1 h2)
theorem two_pow_nn (k : Nat) : (0 : Int) ≤ 2 ^ k := by
  rw [two_pow_cast]
  exact Int.natCast_nonneg _

theorem op_add : OpR X (binaryOp .Add) (rI0 fun i j => .int (i + j)) := opI0 fun _ _ _ _ _ _ _ q => add_int q
theorem op_sub : OpR X (binaryOp .Sub) (rI0 fun i j => .int (i - j)) := opI0 fun _ _ _ _ _ _ _ q => sub_int q
theorem op_mul : OpR X (binaryOp .Mult) (rI CMul fun i j => .int (i * j)) := opI fun _ _ _ _ _ _ _ hc q => mul_int q hc.ok
/-- // by a positive divisor -/
theorem op_fdiv : OpR X (binaryOp .FloorDiv) (rI CDiv fun i j => .int (i / j)) := opI fun i j _ _ _ _ _ hc q => by
  have h1 : (0 : Int) < j := hc.1
  have h2 : j < 1073741824 := hc.2
  exact floordiv_int (by omega) (by rw [Int.fdiv_eq_ediv_of_nonneg i (by omega)]; exact q) (.inl (PyProof.noPylong_small (by omega)))
theorem op_fdivN : OpR X (binaryOp .FloorDiv) (rI CDivN fun i j => .int (i.fdiv j)) := opI fun _ _ _ _ _ _ _ hc q => floordiv_int hc.1 q (.inl (PyProof.noPylong_small hc.2))
/-- % by a positive divisor of any size -/
theorem op_mod : OpR X (binaryOp .Mod) (rI (fun _ j => 0 < j) fun i j => .int (i % j)) := opI fun i j _ _ _ _ _ hc q => by
  have h1 : (0 : Int) < j := hc
  exact mod_int' (by omega) (by rw [Int.fmod_eq_emod_of_nonneg i (by omega)]; exact q)
theorem op_modN : OpR X (binaryOp .Mod) (rI (fun _ j => j ≠ 0) fun i j => .int (i.fmod j)) := opI fun _ _ _ _ _ _ _ hc q => mod_int' hc q
theorem op_pow : OpR X (binaryOp .Pow) (rI CPow fun i j => .int (i ^ j.toNat)) := opI fun _ _ _ _ _ _ _ hc q => pow_int_small hc.1 hc.2.1 hc.2.2 q
theorem op_shl : OpR X (binaryOp .LShift) (rI CPow fun i j => .int (i * 2 ^ j.toNat)) := opI fun _ _ _ _ _ _ _ hc q => lshift_int_small hc.1 hc.2.1 hc.2.2 q
theorem op_shr : OpR X (binaryOp .RShift) (rI (fun _ j => 0 ≤ j) fun i j => .int (i / 2 ^ j.toNat)) := opI fun i j _ _ _ _ _ hc q =>
  rshift_int hc (by rw [Int.fdiv_eq_ediv_of_nonneg i (two_pow_nn _)]; exact q)
theorem op_and : OpR X (binaryOp .BitAnd) (rI0 fun i j => .int (Builtin.bitAnd i j)) := opI0 fun _ _ _ _ _ _ _ q => and_int q
theorem op_or : OpR X (binaryOp .BitOr) (rI0 fun i j => .int (Builtin.bitOr i j)) := opI0 fun _ _ _ _ _ _ _ q => or_int q
theorem op_xor : OpR X (binaryOp .BitXor) (rI0 fun i j => .int (Builtin.bitXor i j)) := opI0 fun _ _ _ _ _ _ _ q => xor_int q

theorem iop_add : OpR X (inplaceOp .Add) (rI0 fun i j => .int (i + j)) := opI0 fun _ _ _ _ _ _ _ q => iadd_int q
theorem iop_sub : OpR X (inplaceOp .Sub) (rI0 fun i j => .int (i - j)) := opI0 fun _ _ _ _ _ _ _ q => isub_int q
theorem iop_mul : OpR X (inplaceOp .Mult) (rI CMul fun i j => .int (i * j)) := opI fun _ _ _ _ _ _ _ hc q => imul_int q hc.ok
theorem iop_fdiv : OpR X (inplaceOp .FloorDiv) (rI CDiv fun i j => .int (i / j)) := opI fun i j _ _ _ _ _ hc q => by
  have h1 : (0 : Int) < j := hc.1
  have h2 : j < 1073741824 := hc.2
  exact ifloordiv_int (by omega) (by rw [Int.fdiv_eq_ediv_of_nonneg i (by omega)]; exact q) (.inl (PyProof.noPylong_small (by omega)))
theorem iop_mod : OpR X (inplaceOp .Mod) (rI (fun _ j => 0 < j) fun i j => .int (i % j)) := opI fun i j _ _ _ _ _ hc q => by
  have h1 : (0 : Int) < j := hc
  exact imod_int (by omega) (by rw [Int.fmod_eq_emod_of_nonneg i (by omega)]; exact q)
theorem iop_shl : OpR X (inplaceOp .LShift) (rI CPow fun i j => .int (i * 2 ^ j.toNat)) := opI fun _ _ _ _ _ _ _ hc q => ilshift_int_small hc.1 hc.2.1 hc.2.2 q
theorem iop_shr : OpR X (inplaceOp .RShift) (rI (fun _ j => 0 ≤ j) fun i j => .int (i / 2 ^ j.toNat)) := opI fun i j _ _ _ _ _ hc q =>
  irshift_int hc (by rw [Int.fdiv_eq_ediv_of_nonneg i (two_pow_nn _)]; exact q)
theorem iop_and : OpR X (inplaceOp .BitAnd) (rI0 fun i j => .int (Builtin.bitAnd i j)) := opI0 fun _ _ _ _ _ _ _ q => iand_int q
theorem iop_or : OpR X (inplaceOp .BitOr) (rI0 fun i j => .int (Builtin.bitOr i j)) := opI0 fun _ _ _ _ _ _ _ q => ior_int q
theorem iop_xor : OpR X (inplaceOp .BitXor) (rI0 fun i j => .int (Builtin.bitXor i j)) := opI0 fun _ _ _ _ _ _ _ q => ixor_int q

theorem unI {f : Value → Sem Value} {g : Int → Int}
    (rule : ∀ (i : Int) (t : Tok) (s : Shared) (Q : Value → Shared → Prop) (E : Value → Shared → Prop), Q (.int (g i) s.toks) { s with toks := s.toks + 1 } → wpAny (model X.prog X.w) X.A (f (.int i t)) Q E s) :
    UnR X f (rU fun i => .int (g i)) := by
  intro pins s σ H x v Q I rx h
  obtain ⟨i, rfl, q⟩ := h
  obtain ⟨t, rfl⟩ := rx
  exact rule i t s _ _ ⟨.int (g i), H, I.tok _, ⟨_, rfl⟩, q⟩
theorem un_neg : UnR X (unaryOp .USub) (rU fun i => .int (-i)) := unI fun _ _ _ _ _ q => neg_int q
theorem un_inv : UnR X (unaryOp .Invert) (rU fun i => .int (Builtin.bitNot i)) := unI fun _ _ _ _ _ q => invert_int q

/-! ### bools among ints: n += (a < b) -/
theorem op_add_ib : OpR X (binaryOp .Add) (fun x y H Q => ∃ i k, x = .int i ∧ y = .bl k ∧ Q (.int (i + b2i k)) H) := by
  intro pins s σ H x y v u Q I rx ry h
  obtain ⟨i, k, rfl, rfl, q⟩ := h
  obtain ⟨t, rfl⟩ := rx
  cases ry
  exact add_int_bool ⟨.int (i + b2i k), H, I.tok _, ⟨_, rfl⟩, q⟩
end

/-! ### comparisons -/
/-- the scalars that == tells apart as data does -/
def scal : V → V → Bool
  | .non, .non => true | .non, .int _ => true | .int _, .non => true | .non, .bl _ => true | .bl _, .non => true | .non, .str _ => true | .str _, .non => true
  | .int _, .int _ => true | .bl _, .bl _ => true | .str _, .str _ => true | .byt _, .byt _ => true
  | .int _, .str _ => true | .str _, .int _ => true | .bl _, .str _ => true | .str _, .bl _ => true
  | _, _ => false
def rEq : R2 := fun x y H Q => scal x y = true ∧ Q (.bl (decide (x = y))) H
def rNe : R2 := fun x y H Q => scal x y = true ∧ Q (.bl (!decide (x = y))) H

theorem dec_int {i j : Int} : decide (V.int i = V.int j) = (i == j) := by
  rw [Bool.eq_iff_iff]
  simp
theorem dec_bl {i j : Bool} : decide (V.bl i = V.bl j) = (i == j) := by
  rw [Bool.eq_iff_iff]
  simp
theorem dec_str {i j : Str} : decide (V.str i = V.str j) = (i == j) := by
  rw [Bool.eq_iff_iff]
  simp
theorem dec_byt {i j : Array UInt8} : decide (V.byt i = V.byt j) = (i.toList == j.toList) := by
  rw [Bool.eq_iff_iff]
  cases i
  cases j
  simp

section
variable {X : Cx} {a b c : Expr} {ta tb tc : TE} {pos : Pos}
theorem fin_bl {pins : List (Addr × Obj)} {σ : St} {H : Hp} {s : Shared} {Q : VK} {k k' : Bool} (I : Inv X pins σ H s) (q : Q (.bl k) H) (e : k = k') : EP X pins σ Q (.bool k') s := by
  subst e
  exact ⟨.bl k, H, I, rfl, q⟩
theorem op_eq : OpR X (compareOp .Eq) rEq := by
  intro pins s σ H x y v u Q I rx ry h
  obtain ⟨hs, q⟩ := h
  cases x with
  | non =>
    cases rx
    cases y with
    | non => cases ry; exact PySem.EqNone.eq_none_none (fin_bl I q (by simp))
    | bl j => cases ry; exact PySem.EqNone.eq_none_bool (fin_bl I q (by simp))
    | int j => obtain ⟨t', rfl⟩ := ry; exact PySem.EqNone.eq_none_int (fin_bl I q (by simp))
    | str j => obtain ⟨t', rfl⟩ := ry; exact PySem.EqNone.eq_none_str (fin_bl I q (by simp))
    | _ => exact absurd (show false = true from hs) Bool.false_ne_true
  | bl i =>
    cases rx
    cases y with
    | non => cases ry; exact PySem.EqNone.eq_bool_none (fin_bl I q (by simp))
    | bl j => cases ry; exact eq_bool (fin_bl I q dec_bl)
    | str j => obtain ⟨t', rfl⟩ := ry; exact PySem.EqMixed.eq_bool_str (fin_bl I q (by simp))
    | _ => exact absurd (show false = true from hs) Bool.false_ne_true
  | int i =>
    obtain ⟨t, rfl⟩ := rx
    cases y with
    | non => cases ry; exact PySem.EqNone.eq_int_none (fin_bl I q (by simp))
    | int j => obtain ⟨t', rfl⟩ := ry; exact eq_int (fin_bl I q dec_int)
    | str j => obtain ⟨t', rfl⟩ := ry; exact PySem.EqMixed.eq_int_str (fin_bl I q (by simp))
    | _ => exact absurd (show false = true from hs) Bool.false_ne_true
  | str i =>
    obtain ⟨t, rfl⟩ := rx
    cases y with
    | non => cases ry; exact PySem.EqNone.eq_str_none (fin_bl I q (by simp))
    | bl j => cases ry; exact PySem.EqMixed.eq_str_bool (fin_bl I q (by simp))
    | int j => obtain ⟨t', rfl⟩ := ry; exact PySem.EqMixed.eq_str_int (fin_bl I q (by simp))
    | str j => obtain ⟨t', rfl⟩ := ry; exact eq_str (fin_bl I q dec_str)
    | _ => exact absurd (show false = true from hs) Bool.false_ne_true
  | byt i =>
    obtain ⟨t, rfl⟩ := rx
    cases y with
    | byt j => obtain ⟨t', rfl⟩ := ry; exact PySem.W.eq_bytes (fin_bl I q dec_byt)
    | _ => exact absurd (show false = true from hs) Bool.false_ne_true
  | _ => cases y <;> exact absurd (show false = true from hs) Bool.false_ne_true
theorem op_ne : OpR X (compareOp .NotEq) rNe := by
  intro pins s σ H x y v u Q I rx ry h
  obtain ⟨hs, q⟩ := h
  cases x with
  | non =>
    cases rx
    cases y with
    | non => cases ry; exact PySem.EqNone.ne_none_none (fin_bl I q (by simp))
    | bl j => cases ry; exact PySem.EqNone.ne_none_bool (fin_bl I q (by simp))
    | int j => obtain ⟨t', rfl⟩ := ry; exact PySem.EqNone.ne_none_int (fin_bl I q (by simp))
    | str j => obtain ⟨t', rfl⟩ := ry; exact PySem.EqNone.ne_none_str (fin_bl I q (by simp))
    | _ => exact absurd (show false = true from hs) Bool.false_ne_true
  | bl i =>
    cases rx
    cases y with
    | non => cases ry; exact PySem.EqNone.ne_bool_none (fin_bl I q (by simp))
    | bl j => cases ry; exact ne_bool (fin_bl I q (congrArg not dec_bl))
    | str j => obtain ⟨t', rfl⟩ := ry; exact PySem.EqMixed.ne_bool_str (fin_bl I q (by simp))
    | _ => exact absurd (show false = true from hs) Bool.false_ne_true
  | int i =>
    obtain ⟨t, rfl⟩ := rx
    cases y with
    | non => cases ry; exact PySem.EqNone.ne_int_none (fin_bl I q (by simp))
    | int j => obtain ⟨t', rfl⟩ := ry; exact ne_int (fin_bl I q (congrArg not dec_int))
    | str j => obtain ⟨t', rfl⟩ := ry; exact PySem.EqMixed.ne_int_str (fin_bl I q (by simp))
    | _ => exact absurd (show false = true from hs) Bool.false_ne_true
  | str i =>
    obtain ⟨t, rfl⟩ := rx
    cases y with
    | non => cases ry; exact PySem.EqNone.ne_str_none (fin_bl I q (by simp))
    | bl j => cases ry; exact PySem.EqMixed.ne_str_bool (fin_bl I q (by simp))
    | int j => obtain ⟨t', rfl⟩ := ry; exact PySem.EqMixed.ne_str_int (fin_bl I q (by simp))
    | str j => obtain ⟨t', rfl⟩ := ry; exact ne_str (fin_bl I q (congrArg not dec_str))
    | _ => exact absurd (show false = true from hs) Bool.false_ne_true
  | byt i =>
    obtain ⟨t, rfl⟩ := rx
    cases y with
    | byt j => obtain ⟨t', rfl⟩ := ry; exact PySem.W.ne_bytes (fin_bl I q (congrArg not dec_byt))
    | _ => exact absurd (show false = true from hs) Bool.false_ne_true
  | _ => cases y <;> exact absurd (show false = true from hs) Bool.false_ne_true

theorem op_lt : OpR X (compareOp .Lt) (rI0 fun i j => .bl (decide (i < j))) := opB0 fun _ _ _ _ _ _ _ q => lt_int q
theorem op_le : OpR X (compareOp .LtE) (rI0 fun i j => .bl (decide (i ≤ j))) := opB0 fun _ _ _ _ _ _ _ q => le_int q
theorem op_gt : OpR X (compareOp .Gt) (rI0 fun i j => .bl (decide (j < i))) := opB0 fun _ _ _ _ _ _ _ q => gt_int q
theorem op_ge : OpR X (compareOp .GtE) (rI0 fun i j => .bl (decide (j ≤ i))) := opB0 fun _ _ _ _ _ _ _ q => ge_int q
theorem op_lt_str : OpR X (compareOp .Lt) (fun x y H Q => ∃ i j, x = .str i ∧ y = .str j ∧ Q (.bl (decide (i.cps.toList < j.cps.toList))) H) := by
  intro pins s σ H x y v u Q I rx ry h
  obtain ⟨i, j, rfl, rfl, q⟩ := h
  obtain ⟨t, rfl⟩ := rx
  obtain ⟨t', rfl⟩ := ry
  exact lt_str (fin_bl I q rfl)
/-- the one string within the other -/
theorem op_in_str : OpR X (compareOp .In) (fun x y H Q => ∃ i j, x = .str i ∧ y = .str j ∧ Q (.bl (!(Builtin.Str.occurrences j i 0 j.length 1).isEmpty)) H) := by
  intro pins s σ H x y v u Q I rx ry h
  obtain ⟨i, j, rfl, rfl, q⟩ := h
  obtain ⟨t, rfl⟩ := rx
  obtain ⟨t', rfl⟩ := ry
  exact in_str (fin_bl I q rfl)

/-- is None, is not None: the right side a value none -/
theorem op_isN : OpR X (compareOp .Is) (fun x y H Q => y = .non ∧ Q (.bl (decide (x = .non))) H) := by
  intro pins s σ H x y v u Q I rx ry h
  obtain ⟨rfl, q⟩ := h
  cases ry
  refine is_none_gen (fin_bl I q ?_)
  cases x <;> first
    | (cases rx; rfl)
    | (obtain ⟨t, rfl⟩ := rx; rfl)
theorem op_notN : OpR X (compareOp .IsNot) (fun x y H Q => y = .non ∧ Q (.bl (!decide (x = .non))) H) := by
  intro pins s σ H x y v u Q I rx ry h
  obtain ⟨rfl, q⟩ := h
  cases ry
  refine isnot_none_gen (fin_bl I q ?_)
  cases x <;> first
    | (cases rx; rfl)
    | (obtain ⟨t, rfl⟩ := rx; rfl)

theorem op_notin_str : OpR X (compareOp .NotIn) (fun x y H Q => ∃ i j, x = .str i ∧ y = .str j ∧ Q (.bl (!(!(Builtin.Str.occurrences j i 0 j.length 1).isEmpty))) H) := by
  intro pins s σ H x y v u Q I rx ry h
  obtain ⟨i, j, rfl, rfl, q⟩ := h
  obtain ⟨t, rfl⟩ := rx
  obtain ⟨t', rfl⟩ := ry
  exact notIn_str (fin_bl I q rfl)
/-- is, is not of two objects that are tracked lists or instances -/
def isObj : HO → Bool
  | .lst _ => true
  | .ins _ _ _ => true
  | _ => false
theorem obj_there {pins : List (Addr × Obj)} {s : Shared} {σ : St} {H : Hp} {a : Addr} {o : HO} (I : Inv X pins σ H s) (h : H a = some o) (p : isObj o = true) : ∃ ob, s.heap.get? a = some ob ∧ ob.cls ≠ .type "tuple" := by
  cases o with
  | lst xs =>
    obtain ⟨_, its, n, _, e⟩ : xs.length ≤ sizeLine ∧ ∃ (its : List Value) (n : Nat), Vals xs its ∧ s.heap.get? a = some { cls := .type "list", data := .seq its.toArray n } := I.hok a _ h
    exact ⟨_, e, (by show Value.type "list" ≠ .type "tuple"; decide +kernel)⟩
  | ins C dx fs =>
    have x := I.hok a _ h
    obtain ⟨_, _, _, e, _⟩ := x
    exact ⟨_, e, (by show Value.ref C ≠ .type "tuple"; exact fun z => by cases z)⟩
  | _ => exact absurd (show false = true from p) Bool.false_ne_true
theorem op_is_ref : OpR X (compareOp .Is) (fun x y H Q => ∃ a b oa ob, x = .ref a ∧ y = .ref b ∧ H a = some oa ∧ isObj oa = true ∧ H b = some ob ∧ isObj ob = true ∧ Q (.bl (decide (a = b))) H) := by
  intro pins s σ H x y v u Q I rx ry h
  obtain ⟨a, b, oa, ob, rfl, rfl, ha, pa, hb, pb, q⟩ := h
  cases rx
  cases ry
  obtain ⟨o1, e1, n1⟩ := obj_there I ha pa
  obtain ⟨o2, e2, _⟩ := obj_there I hb pb
  by_cases z : a = b
  · subst z
    exact wpAny_is_ref_self (fin_bl I q (by simp))
  · exact wpAny_is_ref_other z e1 e2 n1 (fin_bl I q (by simp [z]))
theorem op_isnot_ref : OpR X (compareOp .IsNot) (fun x y H Q => ∃ a b oa ob, x = .ref a ∧ y = .ref b ∧ H a = some oa ∧ isObj oa = true ∧ H b = some ob ∧ isObj ob = true ∧ Q (.bl (!decide (a = b))) H) := by
  intro pins s σ H x y v u Q I rx ry h
  obtain ⟨a, b, oa, ob, rfl, rfl, ha, pa, hb, pb, q⟩ := h
  cases rx
  cases ry
  obtain ⟨o1, e1, n1⟩ := obj_there I ha pa
  obtain ⟨o2, e2, _⟩ := obj_there I hb pb
  by_cases z : a = b
  · subst z
    exact wpAny_isNot_ref_self (fin_bl I q (by simp))
  · exact wpAny_isNot_ref_other z e1 e2 n1 (fin_bl I q (by simp [z]))

/-- two rules for one operation: by cases -/
theorem OpR.or {f : Value → Value → Sem Value} {r r' : R2} (h : OpR X f r) (h' : OpR X f r') : OpR X f (fun x y H Q => r x y H Q ∨ r' x y H Q) := by
  intro pins s σ H x y v u Q I rx ry q
  rcases q with q | q
  · exact h pins s σ H x y v u Q I rx ry q
  · exact h' pins s σ H x y v u Q I rx ry q

theorem nomark (b : Expr) {op : CmpOp} (h : op ≠ .In := by decide) (h2 : op ≠ .NotIn := by decide) : behindInMarks op b = false := by
  have e1 : (op == CmpOp.In) = false := by cases op <;> first | rfl | exact absurd rfl h
  have e2 : (op == CmpOp.NotIn) = false := by cases op <;> first | rfl | exact absurd rfl h2
  cases b <;> simp [behindInMarks, e1, e2]
/-- a comparison as a value; hm: nomark b, or (for in, not in) by with_unfolding_all rfl -/
theorem pe_cmpR {op : CmpOp} {r : R2} (ho : OpR X (compareOp op) r) (ha : PE X a ta) (hb : PE X b tb) (hm : behindInMarks op b = false) : PE X (.Compare a [op] [b] pos) (tOp r ta tb) := by
  intro pins s σ H Q I h
  exact wpAny_Compare1 (binT ha hb I h fun v u s2 x y H2 I2 rx ry q => ho pins s2 σ H2 x y v u Q I2 rx ry q) hm
/-- a reading of a value as a test -/
def tTest (t : TE) : TT := fun σ H Q => t σ H fun x H' => ∃ k, x = .bl k ∧ Q k H'
theorem pt_cmpR {op : CmpOp} {r : R2} (ho : OpR X (compareOp op) r) (ha : PE X a ta) (hb : PE X b tb) (hm : behindInMarks op b = false) : PT X (.Compare a [op] [b] pos) (tTest (tOp r ta tb)) := by
  intro pins s σ H Q I h
  refine wpAny_isTrue_Compare1 (thn (ha pins s σ H _ I h) fun v s1 ⟨x, H1, I1, r1, q1⟩ => thn (hb pins s1 σ H1 _ I1 q1) fun u s2 ⟨y, H2, I2, r2, q2⟩ =>
    thn (ho pins s2 σ H2 x y v u _ I2 r1 r2 q2) fun c s3 ⟨z, H3, I3, r3, k, e, q3⟩ => ?_) hm
  subst e
  cases r3
  exact wpAny_truthy_bool ⟨H3, I3, q3⟩
/-- a op1 b op2 c -/
def tChain (r r' : R2) (ta tb tc : TE) : TE := fun σ H Q => ta σ H fun x H1 => tb σ H1 fun y H2 => r x y H2 fun z H3 => ∃ k, z = .bl k ∧
  (if k = true then tc σ H3 fun w' H4 => r' y w' H4 Q else Q (.bl false) H3)
theorem pe_chain {op op' : CmpOp} {r r' : R2} (ho : OpR X (compareOp op) r) (ho' : OpR X (compareOp op') r') (ha : PE X a ta) (hb : PE X b tb) (hc : PE X c tc)
    (hm : lastMarks [op, op'] [b, c] = false := by with_unfolding_all rfl) : PE X (.Compare a [op, op'] [b, c] pos) (tChain r r' ta tb tc) := by
  intro pins s σ H Q I h
  refine Compare_chain (thn (ha pins s σ H _ I h) fun v s1 ⟨x, H1, I1, r1, q1⟩ => chain_link (thn (hb pins s1 σ H1 _ I1 q1) fun u s2 ⟨y, H2, I2, r2, q2⟩ =>
    thn (ho pins s2 σ H2 x y v u _ I2 r1 r2 q2) fun d s3 ⟨z, H3, I3, r3, k, e, q3⟩ => ?_)) hm
  subst e
  cases r3
  refine wpAny_truthy_bool ?_
  cases k with
  | false => exact ite_ff ⟨.bl false, H3, I3, rfl, q3⟩
  | true => exact ite_tt (chain_last (thn (hc pins s3 σ H3 _ I3 q3) fun w' s4 ⟨z', H4, I4, r4, q4⟩ => ho' pins s4 σ H4 y z' u w' Q I4 r2 r4 q4))
theorem pt_chain {op op' : CmpOp} {r r' : R2} (ho : OpR X (compareOp op) r) (ho' : OpR X (compareOp op') r') (ha : PE X a ta) (hb : PE X b tb) (hc : PE X c tc)
    (hm : lastMarks [op, op'] [b, c] = false := by with_unfolding_all rfl) : PT X (.Compare a [op, op'] [b, c] pos) (tTest (tChain r r' ta tb tc)) := by
  intro pins s σ H Q I h
  refine isTrue_chain (thn (ha pins s σ H _ I h) fun v s1 ⟨x, H1, I1, r1, q1⟩ => test_link (thn (hb pins s1 σ H1 _ I1 q1) fun u s2 ⟨y, H2, I2, r2, q2⟩ =>
    thn (ho pins s2 σ H2 x y v u _ I2 r1 r2 q2) fun d s3 ⟨z, H3, I3, r3, k, e, q3⟩ => ?_)) hm
  subst e
  cases r3
  refine wpAny_truthy_bool ?_
  cases k with
  | false =>
    obtain ⟨k', e', q'⟩ := q3
    cases e'
    exact ite_ff ⟨H3, I3, q'⟩
  | true =>
    refine ite_tt (test_last (thn (hc pins s3 σ H3 _ I3 q3) fun w' s4 ⟨z', H4, I4, r4, q4⟩ => thn (ho' pins s4 σ H4 y z' u w' _ I4 r2 r4 q4) fun d' s5 ⟨z2, H5, I5, r5, k2, e2, q5⟩ => ?_))
    subst e2
    cases r5
    exact wpAny_truthy_bool ⟨H5, I5, q5⟩

/-! ### truth -/
/-- a value's truth by the abstract heap -/
def TruV (K : PySem.W.Frag) (x : V) (H : Hp) (k : Bool) : Prop :=
  match x with
  | .non => k = false
  | .bl b => k = b
  | .int i => k = (i != 0)
  | .str y => y.length ≤ sizeLine ∧ k = ((y.length : Int) != 0)
  | .byt y => y.size ≤ sizeLine ∧ k = ((y.size : Int) != 0)
  | .ref p => (∃ xs, SqL K H p xs ∧ k = !xs.isEmpty) ∨ (∃ xs, SqT K H p xs ∧ k = !xs.isEmpty) ∨ ∃ kvs, H p = some (.dK kvs) ∧ k = !kvs.isEmpty
  | _ => False
theorem isEmpty_kv {κ : Type} {kvs : List (κ × V)} {vs : List (κ × Value)} (r : KV kvs vs) : (!vs.isEmpty) = !kvs.isEmpty := by
  cases r <;> rfl
theorem isEmpty_of {xs : List V} {its : List Value} (r : Vals xs its) : (!its.toArray.isEmpty) = !xs.isEmpty := by
  cases r <;> simp
theorem line63 : (sizeLine : Nat) < 2 ^ 63 := by rw [sizeLine_eq]; decide
theorem tru_ok : TruR X (fun x H Q => ∃ k, TruV X.K x H k ∧ Q k H) := by
  intro pins s σ H x v Q I rx h
  obtain ⟨k, e, q⟩ := h
  have hl := line63
  have hs : sizeLine = 16777216 := sizeLine_eq
  cases x with
  | non =>
    cases rx
    have e' : k = false := e
    subst e'
    exact truthy_none ⟨H, I, q⟩
  | bl b =>
    cases rx
    have e' : k = b := e
    subst e'
    exact wpAny_truthy_bool ⟨H, I, q⟩
  | int i =>
    obtain ⟨t, rfl⟩ := rx
    have e' : k = (i != 0) := e
    subst e'
    exact PySem.P.truthy_int ⟨H, I, q⟩
  | str y =>
    obtain ⟨t, rfl⟩ := rx
    obtain ⟨hy, e'⟩ : y.length ≤ sizeLine ∧ k = ((y.length : Int) != 0) := e
    subst e'
    exact PySem.P.truthy_str (by omega) ⟨H, I.tok _, q⟩
  | byt y =>
    obtain ⟨t, rfl⟩ := rx
    obtain ⟨hy, e'⟩ : y.size ≤ sizeLine ∧ k = ((y.size : Int) != 0) := e
    subst e'
    exact PySem.W.truthy_bytes (by omega) ⟨H, I.tok _, q⟩
  | ref p =>
    cases rx
    have e' : (∃ xs, SqL X.K H p xs ∧ k = !xs.isEmpty) ∨ (∃ xs, SqT X.K H p xs ∧ k = !xs.isEmpty) ∨ ∃ kvs, H p = some (.dK kvs) ∧ k = !kvs.isEmpty := e
    rcases e' with ⟨xs, hx, e'⟩ | ⟨xs, hx, e'⟩ | ⟨kvs, hx, e'⟩
    · subst e'
      obtain ⟨its, r, pl, hz⟩ := I.list hx
      have hlen := r.length
      exact wpAny_truthy_list pl.isList (by simp only [List.size_toArray]; omega) ⟨H, I.tok _, by rw [isEmpty_of r]; exact q⟩
    · subst e'
      obtain ⟨its, r, pl, hz⟩ := I.tuple hx
      have hlen := r.length
      exact truthy_tuple pl (by simp only [List.size_toArray]; omega) ⟨H, I.tok _, by rw [isEmpty_of r]; exact q⟩
    · subst e'
      obtain ⟨hz, hS, vs, r, m⟩ : kvs.length ≤ sizeLine ∧ (p == sysModules) = false ∧ ∃ vs, KV kvs vs ∧ s.heap.DictOf (mixKind X.prog X.w) p vs := I.hok p _ hx
      have hlen : kvs.length = vs.length := Paired.length r
      exact wpAny_truthy_dict hS m (by omega) ⟨H, I.tok _, by rw [isEmpty_kv r]; exact q⟩
  | _ => exact (show False from e).elim
/-- any expression whose test is its value's truth (a name, a call, a subscript, a field ..: he by fun _ => rfl) -/
theorem pt_truth (ha : PE X a ta) (he : ∀ whole, isTrue a X.env whole = (do let v ← whole; standAt a.pos; holding [v] (truthy v))) :
    PT X a (fun σ H Q => ta σ H fun x H' => ∃ k, TruV X.K x H' k ∧ Q k H') := by
  intro pins s σ H Q I h
  exact isTrue_plain (thn (ha pins s σ H _ I h) fun v s1 ⟨x, H1, I1, r1, q1⟩ => tru_ok pins s1 σ H1 x v Q I1 r1 q1) (he _)

/-! ### strs and bytes -/
theorem pe_byt {x : List UInt8} {k : Nat} : PE X (.Constant (.bytes x) k pos) (fun _ H Q => Q (.byt x.toArray) H) := fun _ _ _ H _ I h => PySem.W.Constant_bytes ⟨.byt x.toArray, H, I.tok _, ⟨_, rfl⟩, h⟩
theorem op_add_str : OpR X (binaryOp .Add) (fun x y H Q => ∃ i j, x = .str i ∧ y = .str j ∧ i.length + j.length ≤ sizeLine ∧ Q (.str (i ++ j)) H) := by
  intro pins s σ H x y v u Q I rx ry h
  obtain ⟨i, j, rfl, rfl, hz, q⟩ := h
  obtain ⟨t, rfl⟩ := rx
  obtain ⟨t', rfl⟩ := ry
  exact add_str (fun t' tk => ⟨.str (i ++ j), H, I.tok _, ⟨_, rfl⟩, q⟩) hz
theorem iop_add_str : OpR X (inplaceOp .Add) (fun x y H Q => ∃ i j, x = .str i ∧ y = .str j ∧ i.length + j.length ≤ sizeLine ∧ Q (.str (i ++ j)) H) := by
  intro pins s σ H x y v u Q I rx ry h
  obtain ⟨i, j, rfl, rfl, hz, q⟩ := h
  obtain ⟨t, rfl⟩ := rx
  obtain ⟨t', rfl⟩ := ry
  exact iadd_str (fun t' tk => ⟨.str (i ++ j), H, I.tok _, ⟨_, rfl⟩, q⟩) hz
theorem op_add_byt : OpR X (binaryOp .Add) (fun x y H Q => ∃ i j, x = .byt i ∧ y = .byt j ∧ i.size + j.size ≤ 16777216 ∧ Q (.byt (i ++ j)) H) := by
  intro pins s σ H x y v u Q I rx ry h
  obtain ⟨i, j, rfl, rfl, hz, q⟩ := h
  obtain ⟨t, rfl⟩ := rx
  obtain ⟨t', rfl⟩ := ry
  exact PySem.W.KBy.add_bytes hz (fun t' tk => ⟨.byt (i ++ j), H, I.tok _, ⟨_, rfl⟩, q⟩)

def PlainIxT (b : Expr) : Prop := ∀ o i, subscripted b false o i = operate [o, i] (getItem o i)
/-- s[i], 0 ≤ i < len -/
theorem pe_item_str (ha : PE X a ta) (hb : PE X b tb) (hs : PlainIxT b) :
    PE X (.Subscript a b pos) (tOp (fun x y H Q => ∃ z i c, x = .str z ∧ y = .int i ∧ 0 ≤ i ∧ i < 2 ^ 63 ∧ i < z.length ∧ z.cps[i.toNat]? = some c ∧ Q (.str ⟨#[c]⟩) H) ta tb) := by
  intro pins s σ H Q I h
  refine Subscript_ (binT ha hb I h fun v u s2 x y H2 I2 rx ry q => ?_)
  obtain ⟨z, i, c, rfl, rfl, h0, h63, h1, hc, q⟩ := q
  obtain ⟨t, rfl⟩ := rx
  obtain ⟨t', rfl⟩ := ry
  have e : seqIndex? i z.length = some i.toNat := PySem.StrLaws.seqIndex_nonneg h0 h1
  exact tail_any (typeIs_str s2 z t) slot_str_getitem.lookup (getItem_str (c := c) (by
    have e1 : decide (i < -(2 ^ 63 : Int)) = false := decide_eq_false (by omega)
    have e2 : decide (i ≥ 2 ^ 63) = false := decide_eq_false (by omega)
    rw [e1, e2] <;> rfl) (by rw [e]; exact hc) ⟨.str ⟨#[c]⟩, H2, I2.tok _, ⟨_, rfl⟩, q⟩) (hs _ _)
/-- b[i], 0 ≤ i < len -/
theorem pe_item_byt (ha : PE X a ta) (hb : PE X b tb) (hs : PlainIxT b) :
    PE X (.Subscript a b pos) (tOp (fun x y H Q => ∃ (z : List UInt8) (i : Int), x = .byt z.toArray ∧ y = .int i ∧ z.length ≤ sizeLine ∧ 0 ≤ i ∧ i < z.length ∧ Q (.int ((z.getD i.toNat 0).toNat : Nat)) H) ta tb) := by
  intro pins s σ H Q I h
  refine Subscript_ (binT ha hb I h fun v u s2 x y H2 I2 rx ry q => ?_)
  obtain ⟨z, i, rfl, rfl, hz, h0, h1, q⟩ := q
  obtain ⟨t, rfl⟩ := rx
  obtain ⟨t', rfl⟩ := ry
  have hl : sizeLine = 16777216 := sizeLine_eq
  exact tail_any (PySem.W.typeIs_bytes s2 z.toArray t) PySem.W.FB.slot_bytes_getitem.lookup (PySem.W.getItem_bytes (by omega) h0 h1 ⟨.int ((z.getD i.toNat 0).toNat : Nat), H2, I2.tok _, ⟨_, rfl⟩, q⟩) (hs _ _)

/-! ### scalar builtins, by CallR -/
theorem vals1 {x : V} {us : List Value} (r : Vals [x] us) : ∃ u, us = [u] ∧ RelV x u := by
  cases r with
  | cons r1 r2 => cases r2; exact ⟨_, rfl, r1⟩
theorem vals2 {x y : V} {us : List Value} (r : Vals [x, y] us) : ∃ u w', us = [u, w'] ∧ RelV x u ∧ RelV y w' := by
  cases r with
  | cons r1 r2 =>
    cases r2 with
    | cons r3 r4 => cases r4; exact ⟨_, _, rfl, r1, r3⟩
theorem call_abs : CallR X (.builtin "abs") (fun xs H Q => ∃ i, xs = [.int i] ∧ Q (.int (if i < 0 then -i else i)) H) := by
  intro pins s σ H xs us Q I r h
  obtain ⟨i, rfl, q⟩ := h
  obtain ⟨u, rfl, t, rfl⟩ := vals1 r
  exact call_abs_int fun u tk => ⟨.int (if i < 0 then -i else i), H, I.tok _, ⟨_, rfl⟩, q⟩
theorem call_max2 (hc : X.calm = true) : CallR X (.builtin "max") (fun xs H Q => ∃ i j, xs = [.int i, .int j] ∧ Q (.int (if j > i then j else i)) H) := by
  intro pins s σ H xs us Q I r h
  obtain ⟨i, j, rfl, q⟩ := h
  obtain ⟨u, w', rfl, ⟨t, rfl⟩, ⟨t', rfl⟩⟩ := vals2 r
  refine max_two_ints (I.ok.hd hc) fun h' tk k => ⟨_, H, I.kept k, ?_, q⟩
  by_cases hj : j > i
  · rw [if_pos hj, if_pos hj]; exact ⟨_, rfl⟩
  · rw [if_neg hj, if_neg hj]; exact ⟨_, rfl⟩
theorem call_min2 (hc : X.calm = true) : CallR X (.builtin "min") (fun xs H Q => ∃ i j, xs = [.int i, .int j] ∧ Q (.int (if j < i then j else i)) H) := by
  intro pins s σ H xs us Q I r h
  obtain ⟨i, j, rfl, q⟩ := h
  obtain ⟨u, w', rfl, ⟨t, rfl⟩, ⟨t', rfl⟩⟩ := vals2 r
  refine min_two_ints (I.ok.hd hc) fun h' tk k => ⟨_, H, I.kept k, ?_, q⟩
  by_cases hj : j < i
  · rw [if_pos hj, if_pos hj]; exact ⟨_, rfl⟩
  · rw [if_neg hj, if_neg hj]; exact ⟨_, rfl⟩
theorem call_int1 : CallR X (.type "int") (fun xs H Q => (∃ i, xs = [.int i] ∧ Q (.int i) H) ∨ ∃ k, xs = [.bl k] ∧ Q (.int (if k then 1 else 0)) H) := by
  intro pins s σ H xs us Q I r h
  rcases h with ⟨i, rfl, q⟩ | ⟨k, rfl, q⟩
  · obtain ⟨u, rfl, t, rfl⟩ := vals1 r
    exact call_int_int ⟨.int i, H, I, ⟨_, rfl⟩, q⟩
  · obtain ⟨u, rfl, r1⟩ := vals1 r
    cases r1
    exact call_int_bool ⟨.int (if k then 1 else 0), H, I.tok _, ⟨_, rfl⟩, q⟩
theorem call_bool1 : CallR X (.type "bool") (fun xs H Q => (∃ i, xs = [.int i] ∧ Q (.bl (i != 0)) H) ∨ ∃ k, xs = [.bl k] ∧ Q (.bl k) H) := by
  intro pins s σ H xs us Q I r h
  rcases h with ⟨i, rfl, q⟩ | ⟨k, rfl, q⟩
  · obtain ⟨u, rfl, t, rfl⟩ := vals1 r
    exact call_bool_int ⟨.bl (i != 0), H, I, rfl, q⟩
  · obtain ⟨u, rfl, r1⟩ := vals1 r
    cases r1
    exact call_bool_bool ⟨.bl k, H, I, rfl, q⟩
theorem call_str_int : CallR X (.type "str") (fun xs H Q => ∃ i, xs = [.int i] ∧ i.natAbs.log2 < 1920 ∧ Q (.str (toString i)) H) := by
  intro pins s σ H xs us Q I r h
  obtain ⟨i, rfl, hz, q⟩ := h
  obtain ⟨u, rfl, t, rfl⟩ := vals1 r
  exact PySem.P.str_of_int hz ⟨.str _, H, I.tok _, ⟨_, rfl⟩, q⟩
theorem call_ord : CallR X (.builtin "ord") (fun xs H Q => ∃ x, xs = [.str x] ∧ x.length = 1 ∧ Q (.int (x.cps.getD 0 0 : Nat)) H) := by
  intro pins s σ H xs us Q I r h
  obtain ⟨x, rfl, hz, q⟩ := h
  obtain ⟨u, rfl, t, rfl⟩ := vals1 r
  exact ord_of_one hz ⟨.int _, H, I.tok _, ⟨_, rfl⟩, q⟩
theorem call_chr : CallR X (.builtin "chr") (fun xs H Q => ∃ i, xs = [.int i] ∧ 0 ≤ i ∧ i ≤ 1114111 ∧ Q (.str ⟨#[i.toNat]⟩) H) := by
  intro pins s σ H xs us Q I r h
  obtain ⟨i, rfl, h0, h1, q⟩ := h
  obtain ⟨u, rfl, t, rfl⟩ := vals1 r
  exact chr_of_range h0 h1 ⟨.str _, H, I.tok _, ⟨_, rfl⟩, q⟩
/-- len of a str, a bytes, a list, a tuple -/
def LenV (K : PySem.W.Frag) (x : V) (H : Hp) (n : Nat) : Prop :=
  match x with
  | .str y => y.length ≤ sizeLine ∧ n = y.length
  | .byt y => y.size ≤ sizeLine ∧ n = y.size
  | .ref p => (∃ xs, SqL K H p xs ∧ n = xs.length) ∨ ∃ xs, SqT K H p xs ∧ n = xs.length
  | _ => False
theorem call_len : CallR X (.builtin "len") (fun xs H Q => ∃ x n, xs = [x] ∧ LenV X.K x H n ∧ Q (.int n) H) := by
  intro pins s σ H xs us Q I r h
  obtain ⟨x, n, rfl, e, q⟩ := h
  obtain ⟨u, rfl, rx⟩ := vals1 r
  have hl := line63
  have hs : sizeLine = 16777216 := sizeLine_eq
  cases x with
  | str y =>
    obtain ⟨t, rfl⟩ := rx
    obtain ⟨hy, e'⟩ : y.length ≤ sizeLine ∧ n = y.length := e
    subst e'
    exact len_str (by omega) ⟨.int _, H, I.tok _, ⟨_, rfl⟩, q⟩
  | byt y =>
    obtain ⟨t, rfl⟩ := rx
    obtain ⟨hy, e'⟩ : y.size ≤ sizeLine ∧ n = y.size := e
    subst e'
    exact PySem.W.len_bytes (by omega) ⟨.int _, H, I.tok _, ⟨_, rfl⟩, q⟩
  | ref p =>
    cases rx
    have e' : (∃ xs, SqL X.K H p xs ∧ n = xs.length) ∨ ∃ xs, SqT X.K H p xs ∧ n = xs.length := e
    rcases e' with ⟨xs, hx, e'⟩ | ⟨xs, hx, e'⟩
    · subst e'
      obtain ⟨its, r', pl, hz⟩ := I.list hx
      have hlen := r'.length
      exact Calls.call_len_list pl.isList (by simp only [List.size_toArray]; omega) ⟨.int xs.length, H, I.tok _, ⟨_, by simp only [List.size_toArray]; rw [hlen]⟩, q⟩
    · subst e'
      obtain ⟨its, r', pl, hz⟩ := I.tuple hx
      have hlen := r'.length
      exact len_tuple pl (by simp only [List.size_toArray]; omega) ⟨.int xs.length, H, I.tok _, ⟨_, by simp only [List.size_toArray]; rw [hlen]⟩, q⟩
  | _ => exact (show False from e).elim
/-- divmod: a new tuple -/
theorem call_divmod : CallR X (.builtin "divmod") (fun xs H Q => ∃ i j, xs = [.int i, .int j] ∧ CDiv i j ∧ ∀ p, H p = none → Q (.ref p) (upd H p (.tup [.int (i / j), .int (i % j)]))) := by
  intro pins s σ H xs us Q I r h
  obtain ⟨i, j, rfl, ⟨h1, h2⟩, q⟩ := h
  obtain ⟨u, w', rfl, ⟨t, rfl⟩, ⟨t', rfl⟩⟩ := vals2 r
  refine divmod_int (by omega) ?_ (.inl (PyProof.noPylong_small (by omega)))
  rw [Int.fdiv_eq_ediv_of_nonneg i (by omega), Int.fmod_eq_emod_of_nonneg i (by omega)]
  have hn : H s.heap.objs.size = none := I.hok.fresh (Nat.le_refl _)
  refine ⟨.ref s.heap.objs.size, _, ?_, rfl, q _ hn⟩
  refine I.laid (fun b o e => Heap.get?_push_of_some _ e) (Nat.le_refl _) ⟨by simp only [List.length_cons, List.length_nil]; rw [sizeLine_eq]; decide, [.int (i / j) s.toks, .int (i % j) (s.toks + 1)], .cons ⟨_, rfl⟩ (.cons ⟨_, rfl⟩ .nil), ?_⟩
  exact ⟨_, Heap.get?_push_size s.heap rfl, rfl, 0, rfl⟩
end
end L2

namespace L2
open PySem PySem.Spec PyProof.Rows

/-! ### an instance, its attributes a map -/
structure ObjM (h : Heap) (x dx C : Addr) (mA : Str → Option Value) : Prop where
  obj : h.get? x = some (PySem.W.instObj C dx)
  ns : h.Ns1 dx mA
  ne : dx ≠ x

theorem lookIn_ns {h : Heap} {dx : Addr} {mA : Str → Option Value} (n : h.Ns1 dx mA) : ∃ od, h.get? dx = some od ∧ ∀ name, PySem.W.lookIn name od = some (mA name) := by
  obtain ⟨o, es, ep, ho, hd, hk, _, hm⟩ := n
  refine ⟨o, ho, fun name => ?_⟩
  have e := hm name
  unfold nsFind findBy at e
  rw [← Array.find?_toList] at e
  unfold PySem.W.lookIn
  rw [hd]
  dsimp only
  split
  · rename_i y q
    rw [q] at e
    exact congrArg some e
  · rename_i q
    rw [q] at e
    have a : es.toList.any (·.refKey) = false := by
      rw [List.any_eq_false]
      intro y hy
      obtain ⟨z, t, hkey⟩ := hk y (Array.mem_toList_iff.mp hy)
      simp [DictEntry.refKey, hkey]
    have a' : ¬ es.toList.any (·.refKey) = true := by rw [a]; exact Bool.false_ne_true
    rw [if_neg a']
    exact congrArg some e

theorem ObjM.look {h : Heap} {x dx C : Addr} {mA : Str → Option Value} (I : ObjM h x dx C mA) : ∃ od, PySem.W.InstAt h x (PySem.W.instObj C dx) C (some od) ∧ ∀ name, PySem.W.lookIn name od = some (mA name) :=
  let ⟨od, ho, hl⟩ := lookIn_ns I.ns
  ⟨od, ⟨I.obj, rfl, rfl, ho⟩, hl⟩

section
variable {prog : Program} {w : World} {A : Around} {E : Value → Shared → Prop} {s : Shared} {K : PySem.W.Frag} {x dx C f : Addr} {mA : Str → Option Value} {name : Str} {v : Value}

theorem get_map {expr : Bool} {Q : Value → Shared → Prop} (X : K.In s.heap) (I : ObjM s.heap x dx C mA) (hg : PySem.W.plainGet K C name = true) (hh : PySem.W.hasDictIn K C = true)
    (ha : PySem.W.findIn K (.ref C) name = some none) (hv : mA name = some v) (hv' : PySem.W.handedIn v = true) (h : Q v { s with toks := s.toks + 1 }) :
    wpAny (model prog w) A (getAttr (.ref x) name expr) Q E s := by
  obtain ⟨od, J, hl⟩ := I.look
  exact PySem.W.get_value X J (PySem.W.plainGet_of hg).1 (PySem.W.findObj_own hh ha rfl (by rw [hl, hv])) hv' h

theorem get_const {expr : Bool} {a : Value} {Q : Value → Shared → Prop} (X : K.In s.heap) (I : ObjM s.heap x dx C mA) (hg : PySem.W.plainGet K C name = true) (hh : PySem.W.hasDictIn K C = true)
    (ha : PySem.W.findIn K (.ref C) name = some (some a)) (hn : PySem.W.specialIn K a "__get__" = some none) (hc : PySem.W.copiedNames.contains name = false) (hv : mA name = none) (hv' : PySem.W.handedIn a = true)
    (h : Q a { s with toks := s.toks + 1 }) : wpAny (model prog w) A (getAttr (.ref x) name expr) Q E s := by
  obtain ⟨od, J, hl⟩ := I.look
  exact PySem.W.get_value X J (PySem.W.plainGet_of hg).1 (PySem.W.findObj_cls hh ha hn hv' hc (by rw [hl, hv])) hv' h

theorem get_meth {pl : Sem Bool} {Q : Value × List Value → Shared → Prop} (X : K.In s.heap) (I : ObjM s.heap x dx C mA) (hg : PySem.W.plainGet K C name = true)
    (hf : PySem.W.findIn K (.ref C) name = some (some (.ref f))) (ht : PySem.W.isFn K (.ref f) = true) (hv : mA name = none) (h : Q (.ref f, [.ref x]) s) :
    wpAny (model prog w) A (getMethod (.ref x) name pl) Q E s := by
  obtain ⟨od, J, hl⟩ := I.look
  exact PySem.W.method_fn X J (PySem.W.plainGet_of hg).1 (PySem.W.plainGet_of hg).2 hf (beq_iff_eq.mp ht) (by show (PySem.W.lookIn name od).map (·.isSome) = some false; rw [hl, hv]; rfl) h

theorem set_map {ns : List Str} {Q : Unit → Shared → Prop} (X : K.In s.heap) (I : ObjM s.heap x dx C mA)
    (hs : PySem.W.findIn K (.ref C) "__setattr__" = some (some (.builtin "object.__setattr__"))) (hp : PySem.W.plainOver K C = true) (ht : PySem.W.takerIn K C name = some none) (hh : PySem.W.hasDictIn K C = true)
    (hw : PySem.Within mA ns) (hsz : ns.length ≤ sizeLine)
    (h : ∀ h', ObjM h' x dx C (fun y => if y = name then some v else mA y) → Heap.SameBut dx s.heap h' → Q () { s with heap := h', toks := s.toks + 2 }) :
    wpAny (model prog w) A (setAttr (.ref x) name v) Q E s := by
  obtain ⟨od, J, hl⟩ := I.look
  refine PySem.W.set_plain X J hs (PySem.W.osa_open (s := { s with toks := s.toks + 1 }) (r := none) X J hp ht fun b => ?_)
  obtain ⟨cd, hc, hd'⟩ := PySem.W.any_some hh
  have hx : s.heap.get? x = some ⟨.ref C, some dx, .plain, #[]⟩ := I.obj
  refine wpAny_bind (wpAny_pure (wpAny_bind (wpAny_bind (wpAny_loadPart hx (wpAny_bind (PySem.W.Looks.here (s := { s with toks := s.toks + 1 }) (PySem.W.looks_clsIn X hc) ?_))))))
  rw [hd']
  refine wpAny_pure (a := some dx) (wpAny_bind (wpAny_pure (wpAny_bind ?_)))
  refine wpAny_nsSet1 (s := { s with toks := s.toks + 1 }) I.ns fun h' hn2 hs2 => ?_
  obtain ⟨oD, esD, epD, hoD, hdD, hcD⟩ := hn2.count (PySem.Within.cons name v hw)
  refine wpAny_bind (wpAny_lookBehind hoD (by rw [hdD]; exact pastItsLine_dict (Nat.le_trans hcD (by rw [List.length_cons]; omega))) ?_)
  exact wpAny_pure (h _ ⟨(hs2.2 _ (Ne.symm I.ne)).trans I.obj, hn2, I.ne⟩ hs2)

/-- C(..): the dict at the heap's end, the instance behind it; then its __init__ -/
theorem make_map {R : Result → Shared → Prop} {vs : List Value} {kw : List (Str × Value)} (X : K.In s.heap) (hm : PySem.W.makesIn K C = true)
    (hi : PySem.W.findIn K (.ref C) "__init__" = some (some (.ref f))) (hf : PySem.W.typeIn K (.ref f) = some (.type "function"))
    (h : codeAny (model prog w) (A.under (.builtin "type.__call__" ⟨.ref C :: vs, kw⟩)) (.call (.ref f) ⟨.ref (s.heap.objs.size + 1) :: vs, kw⟩) (PySem.W.InitBack (s.heap.objs.size + 1) R)
      { s with heap := (s.heap.push PySem.W.emptyDict).push (PySem.W.instObj C s.heap.objs.size) }) :
    codeAny (model prog w) A (.call (.ref C) ⟨vs, kw⟩) R s := by
  obtain ⟨hh, g, d, t, os⟩ := s
  exact PySem.W.make_core (PySem.W.makes_of X hm) (PySem.W.looks_findIn X hi) (fun self => PySem.W.bind_fn X self hf) (.inl rfl) h
/-- C() where there is no __init__ but object's -/
theorem make_map0 {R : Result → Shared → Prop} (X : K.In s.heap) (hm : PySem.W.makesIn K C = true)
    (hi : PySem.W.findIn K (.ref C) "__init__" = some (some (.builtin "object.__init__")))
    (hb : ∀ self, PySem.W.Looks (model prog w) s.heap (bindSpecial (.builtin "object.__init__") self) (.builtin "object.__init__", [self]))
    (h : codeAny (model prog w) (A.under (.builtin "type.__call__" ⟨[.ref C], []⟩)) (.call (.builtin "object.__init__") ⟨[.ref (s.heap.objs.size + 1)], []⟩) (PySem.W.InitBack (s.heap.objs.size + 1) R)
      { s with heap := (s.heap.push PySem.W.emptyDict).push (PySem.W.instObj C s.heap.objs.size) }) :
    codeAny (model prog w) A (.call (.ref C) ⟨[], []⟩) R s := by
  obtain ⟨hh, g, d, t, os⟩ := s
  exact PySem.W.make_core (PySem.W.makes_of X hm) (PySem.W.looks_findIn X hi) hb (.inr ⟨rfl, rfl⟩) h
end

/-! ### the attributes as a list of pairs -/
def putF (f : Str) (v : V) : List (Str × V) → List (Str × V)
  | [] => [(f, v)]
  | (g, x) :: r => if g = f then (g, v) :: r else (g, x) :: putF f v r
theorem lookup_putF (f g : Str) (v : V) : ∀ fs : List (Str × V), (putF f v fs).lookup g = if g = f then some v else fs.lookup g
  | [] => by
    show List.lookup g [(f, v)] = _
    by_cases h : g = f
    · have hb : (g == f) = true := beq_iff_eq.mpr h
      simp only [List.lookup, hb, if_pos h]
    · have hb : (g == f) = false := beq_eq_false_iff_ne.mpr h
      simp only [List.lookup, hb, if_neg h]
  | (k, x) :: r => by
    have ih := lookup_putF f g v r
    rw [show putF f v ((k, x) :: r) = (if k = f then (k, v) :: r else (k, x) :: putF f v r) from rfl]
    by_cases hk : k = f
    · rw [if_pos hk]
      by_cases h : g = k
      · have hb : (g == k) = true := beq_iff_eq.mpr h
        simp only [List.lookup, hb, if_pos (h.trans hk)]
      · have hb : (g == k) = false := beq_eq_false_iff_ne.mpr h
        simp only [List.lookup, hb, if_neg (fun e : g = f => h (e.trans hk.symm))]
    · rw [if_neg hk]
      by_cases h : g = k
      · have hb : (g == k) = true := beq_iff_eq.mpr h
        simp only [List.lookup, hb, if_neg (fun e : g = f => hk (h.symm.trans e))]
      · have hb : (g == k) = false := beq_eq_false_iff_ne.mpr h
        simp only [List.lookup, hb]
        exact ih
theorem keys_putF (f : Str) (v : V) : ∀ fs : List (Str × V), f ∈ (putF f v fs).map (·.1) ∧ ∀ g, g ∈ fs.map (·.1) → g ∈ (putF f v fs).map (·.1)
  | [] => ⟨by simp [putF], fun g h => by simp at h⟩
  | (k, x) :: r => by
    obtain ⟨i1, i2⟩ := keys_putF f v r
    rw [show putF f v ((k, x) :: r) = (if k = f then (k, v) :: r else (k, x) :: putF f v r) from rfl]
    by_cases hk : k = f
    · rw [if_pos hk]
      subst hk
      exact ⟨by simp, fun g h => by simpa using h⟩
    · rw [if_neg hk]
      refine ⟨?_, fun g h => ?_⟩
      · rw [List.map_cons]
        exact List.mem_cons_of_mem _ i1
      · rw [List.map_cons] at h ⊢
        rcases List.mem_cons.mp h with e | e
        · exact List.mem_cons.mpr (.inl e)
        · exact List.mem_cons_of_mem _ (i2 g e)
theorem length_putF (f : Str) (v : V) : ∀ fs : List (Str × V), (putF f v fs).length ≤ fs.length + 1
  | [] => by simp [putF]
  | (k, x) :: r => by
    have ih := length_putF f v r
    rw [show putF f v ((k, x) :: r) = (if k = f then (k, v) :: r else (k, x) :: putF f v r) from rfl]
    by_cases hk : k = f
    · rw [if_pos hk, List.length_cons, List.length_cons]; omega
    · rw [if_neg hk, List.length_cons, List.length_cons]; omega

theorem RelO.some_of {v : V} {o : Option Value} (r : RelO (some v) o) : ∃ u, o = some u ∧ RelV v u := by
  cases o with
  | none => exact (show False from r).elim
  | some u => exact ⟨u, rfl, r⟩
theorem RelO.none_of {o : Option Value} (r : RelO none o) : o = none := by
  cases o with
  | none => rfl
  | some u => exact (show False from r).elim
theorem handed_of {v : V} {u : Value} (r : RelV v u) : PySem.W.handedIn u = true := by
  cases v with
  | non => cases (show u = Value.none from r); rfl
  | bl b => cases (show u = Value.bool b from r); rfl
  | int i => obtain ⟨t, e⟩ := (show ∃ t, u = Value.int i t from r); cases e; rfl
  | str x => obtain ⟨t, e⟩ := (show ∃ t, u = Value.str x t from r); cases e; rfl
  | byt b => obtain ⟨t, e⟩ := (show ∃ t, u = Value.bytes b t from r); cases e; rfl
  | flt b => obtain ⟨t, e⟩ := (show ∃ t, u = Value.float b t from r); cases e; rfl
  | ref a => cases (show u = Value.ref a from r); rfl
  | ty n => cases (show u = Value.type n from r); rfl

section
variable {P : Program} {w : World} {H H' : Hp} {h h' : Heap} {a C dx : Addr} {fs fs' : List (Str × V)}
theorem ins_get (hok : HOk P w H h) (e : H a = some (.ins C dx fs)) : ∃ mA, ObjM h a dx C mA ∧ (∀ f, RelO (fs.lookup f) (mA f)) ∧ PySem.Within mA (fs.map (·.1)) ∧ fs.length ≤ 1000 ∧ H dx = some (.own a) := by
  obtain ⟨d, z, ne, ob, mA, n, r, q⟩ := (show ObjOk P w H h a (.ins C dx fs) from hok a _ e)
  exact ⟨mA, ⟨ob, n, ne⟩, r, q, z, d⟩
end

/-! ### what of the text a class must have -/
structure Cls (K : PySem.W.Frag) (C : Addr) : Prop where
  pg : PySem.W.plainGet K C Str.empty = true
  hd : PySem.W.hasDictIn K C = true
  po : PySem.W.plainOver K C = true
  sa : PySem.W.findIn K (.ref C) "__setattr__" = some (some (.builtin "object.__setattr__"))
theorem Cls.get {K : PySem.W.Frag} {C : Addr} (c : Cls K C) (f : Str) : PySem.W.plainGet K C f = true := c.pg
/-- no class of it has the name -/
def NoAttr (K : PySem.W.Frag) (C : Addr) (f : Str) : Prop := PySem.W.findIn K (.ref C) f = some none
theorem NoAttr.taker {K : PySem.W.Frag} {C : Addr} {f : Str} (n : NoAttr K C f) : PySem.W.takerIn K C f = some none := by
  unfold PySem.W.takerIn
  rw [show PySem.W.findIn K (.ref C) f = some none from n]
  rfl
/-- a constant of the class -/
structure Con (K : PySem.W.Frag) (C : Addr) (f : Str) (v : V) (u : Value) : Prop where
  at_ : PySem.W.findIn K (.ref C) f = some (some u)
  rel : RelV v u
  get : PySem.W.specialIn K u "__get__" = some none
  cp : PySem.W.copiedNames.contains f = false
/-- a method: a plain def of the class or of one above it -/
structure Meth (K : PySem.W.Frag) (C : Addr) (m : Str) (f : Addr) : Prop where
  at_ : PySem.W.findIn K (.ref C) m = some (some (.ref f))
  fn : PySem.W.isFn K (.ref f) = true
  kp : PySem.W.keepIn K (.ref f) = true

section
variable {X : Cx} {pins : List (Addr × Obj)} {σ : St} {H : Hp} {s : Shared} {a C dx : Addr} {fs : List (Str × V)} {f : Str} {v : V} {A : Around} {E : Value → Shared → Prop}

theorem getattr_ok {b : Bool} {Q : Value → Shared → Prop} (I : Inv X pins σ H s) (e : H a = some (.ins C dx fs)) (c : Cls X.K C) (n : NoAttr X.K C f) (l : fs.lookup f = some v)
    (h : ∀ u s', Inv X pins σ H s' → RelV v u → Q u s') : wpAny (model X.prog X.w) A (getAttr (.ref a) f b) Q E s := by
  obtain ⟨mA, O, r, _, _, _⟩ := ins_get I.hok e
  obtain ⟨u, hu, ru⟩ := RelO.some_of (v := v) (o := mA f) (by rw [← l]; exact r f)
  exact get_map I.kIn O (c.get f) c.hd n hu (handed_of ru) (h u _ (I.tok _) ru)

theorem getcon_ok {b : Bool} {u : Value} {Q : Value → Shared → Prop} (I : Inv X pins σ H s) (e : H a = some (.ins C dx fs)) (c : Cls X.K C) (k : Con X.K C f v u) (l : fs.lookup f = none)
    (h : ∀ s', Inv X pins σ H s' → Q u s') : wpAny (model X.prog X.w) A (getAttr (.ref a) f b) Q E s := by
  obtain ⟨mA, O, r, _, _, _⟩ := ins_get I.hok e
  have hn : mA f = none := RelO.none_of (by rw [← l]; exact r f)
  exact get_const I.kIn O (c.get f) c.hd k.at_ k.get k.cp hn (handed_of k.rel) (h _ (I.tok _))

theorem getmeth_ok {m : Str} {g : Addr} {pl : Sem Bool} {Q : Value × List Value → Shared → Prop} (I : Inv X pins σ H s) (e : H a = some (.ins C dx fs)) (c : Cls X.K C) (k : Meth X.K C m g) (l : fs.lookup m = none)
    (h : Q (.ref g, [.ref a]) s) : wpAny (model X.prog X.w) A (getMethod (.ref a) m pl) Q E s := by
  obtain ⟨mA, O, r, _, _, _⟩ := ins_get I.hok e
  have hn : mA m = none := RelO.none_of (by rw [← l]; exact r m)
  exact get_meth I.kIn O (c.get m) k.at_ k.fn hn h

theorem setattr_ok {y : V} {u : Value} {Q : Unit → Shared → Prop} (I : Inv X pins σ H s) (e : H a = some (.ins C dx fs)) (c : Cls X.K C) (n : NoAttr X.K C f) (hl : fs.length < 1000) (ry : RelV y u)
    (h : ∀ s', Inv X pins σ (upd H a (.ins C dx (putF f y fs))) s' → Q () s') : wpAny (model X.prog X.w) A (setAttr (.ref a) f u) Q E s := by
  obtain ⟨mA, O, r, wi, _, ho⟩ := ins_get I.hok e
  have hz : (fs.map (·.1)).length ≤ sizeLine := by rw [List.length_map, sizeLine_eq]; omega
  refine set_map I.kIn O c.sa c.po n.taker c.hd wi hz fun h' O' sb => h _ ?_
  have hd : ∃ o, h'.get? dx = some o := let ⟨o, _, _, e', _⟩ := O'.ns; ⟨o, e'⟩
  refine I.write (x := a) (e := dx) (by rw [e]; exact True.intro) (.inr ho) (fun b q hb z => (sb.2 b hb).trans z) hd ?_
  refine ⟨by rw [upd_ne O.ne]; exact ho, ?_, O.ne, O'.obj, _, O'.ns, fun g => ?_, fun g hg => ?_⟩
  · have := length_putF f y fs; omega
  · show RelO ((putF f y fs).lookup g) (if g = f then some u else mA g)
    rw [lookup_putF]
    by_cases q : g = f
    · rw [if_pos q, if_pos q]; exact ry
    · rw [if_neg q, if_neg q]; exact r g
  · by_cases q : g = f
    · rw [q]; exact (keys_putF f y fs).1
    · refine (keys_putF f y fs).2 g (wi g fun z => hg ?_)
      show (if g = f then some u else mA g) = none
      rw [if_neg q]; exact z

/-- a new instance, tracked, without attributes -/
theorem Inv.made (I : Inv X pins σ H s) : Inv X pins σ (upd (upd H s.heap.objs.size (.own (s.heap.objs.size + 1))) (s.heap.objs.size + 1) (.ins C s.heap.objs.size []))
    { s with heap := (s.heap.push PySem.W.emptyDict).push (PySem.W.instObj C s.heap.objs.size) } := by
  have e1 : (s.heap.push PySem.W.emptyDict).get? s.heap.objs.size = some PySem.W.emptyDict := Heap.get?_push_size s.heap rfl
  have e2 : ((s.heap.push PySem.W.emptyDict).push (PySem.W.instObj C s.heap.objs.size)).get? (s.heap.objs.size + 1) = some (PySem.W.instObj C s.heap.objs.size) := by
    have := Heap.get?_push_size (s.heap.push PySem.W.emptyDict) (o := PySem.W.instObj C s.heap.objs.size) rfl
    rwa [Heap.size_push] at this
  have e3 : (s.heap.push PySem.W.emptyDict).Ns s.heap.objs.size (fun _ => none) := ⟨PySem.W.emptyDict, #[], _, e1, rfl, (fun e he => absurd he (by simp)), fun _ => rfl⟩
  have I1 := I.laid (a := s.heap.objs.size) (o := .own (s.heap.objs.size + 1)) (h' := s.heap.push PySem.W.emptyDict) (t' := s.toks) (fun b u q => Heap.get?_push_of_some _ q) (Nat.le_refl _) ⟨_, e1⟩
  refine I1.laid (a := s.heap.objs.size + 1) (o := .ins C s.heap.objs.size []) (t' := s.toks) (fun b u q => Heap.get?_push_of_some _ q) (Nat.le_of_eq (Heap.size_push _ _)) ?_
  have ne : s.heap.objs.size ≠ s.heap.objs.size + 1 := Nat.ne_of_lt (Nat.lt_succ_self _)
  refine ⟨by rw [upd_ne ne, upd_same], Nat.zero_le _, ne, e2, fun _ => none, (Heap.Ns1.of_empty e3).at fun o q => Heap.get?_push_of_some _ q, fun _ => True.intro, fun y hy => absurd rfl hy⟩

/-- e.f where nothing but the object is asked: through attributeBase (super) and the last hold -/
theorem attr_of {prog : Program} {w : World} {env : Env} {e : Expr} {f : Str} {pos : Pos} {s : Shared} {Q : Value → Shared → Prop} (hb : attributeBase e f env (eval e env) = eval e env)
    (h : wpAny (model prog w) A (eval e env) (fun o s₁ => wpAny (model prog w) A (getAttr o f true) Q E s₁) E s) : wpAny (model prog w) A (eval (.Attribute e f pos) env) Q E s :=
  Attribute_any_ h (by rw [arm_eval_Attribute, hb])
end

/-! ### readings and rules -/
/-- e.f, an attribute of the instance -/
def tFld (K : PySem.W.Frag) (ta : TE) (f : Str) : TE := fun σ H Q => ta σ H fun x H1 => ∃ a C dx fs v, x = .ref a ∧ H1 a = some (.ins C dx fs) ∧ Cls K C ∧ NoAttr K C f ∧ fs.lookup f = some v ∧ Q v H1
/-- e.f, a constant of the class -/
def tCon (K : PySem.W.Frag) (ta : TE) (f : Str) : TE := fun σ H Q => ta σ H fun x H1 => ∃ a C dx fs v u, x = .ref a ∧ H1 a = some (.ins C dx fs) ∧ Cls K C ∧ Con K C f v u ∧ fs.lookup f = none ∧ Q v H1
/-- e.f = value -/
def sFld (K : PySem.W.Frag) (ta tv : TE) (f : Str) : TS := fun D σ H => tv σ H fun y H1 => ta σ H1 fun x H2 => ∃ a C dx fs, x = .ref a ∧ H2 a = some (.ins C dx fs) ∧ Cls K C ∧ NoAttr K C f ∧ fs.length < 1000 ∧
  D.nx σ (upd H2 a (.ins C dx (putF f y fs)))
/-- an augmented operator on two values -/
def InOp (X : Cx) (op : Operator) (rd : V → V → Hp → VK → Prop) : Prop :=
  ∀ (pins : List (Addr × Obj)) (s : Shared) (σ : St) (H : Hp) (x y : V) (u v : Value) (Q : VK), Inv X pins σ H s → RelV x u → RelV y v → rd x y H Q → wpAny (model X.prog X.w) X.A (inplaceOp op u v) (EP X pins σ Q) X.xe s
/-- e.f op= value -/
def sFldAug (K : PySem.W.Frag) (ta tv : TE) (rd : V → V → Hp → VK → Prop) (f : Str) : TS := fun D σ H => ta σ H fun x H1 => ∃ a C dx fs v, x = .ref a ∧ H1 a = some (.ins C dx fs) ∧ Cls K C ∧ NoAttr K C f ∧ fs.lookup f = some v ∧
  tv σ H1 fun y H2 => rd v y H2 fun z H3 => ∃ dx' fs', H3 a = some (.ins C dx' fs') ∧ fs'.length < 1000 ∧ D.nx σ (upd H3 a (.ins C dx' (putF f z fs')))

section
variable {X : Cx} {o e value : Expr} {f : Str} {pos pos' tpos : Pos} {ta tv : TE}
theorem pe_fld (he : PE X e ta) (hb : attributeBase e f X.env (eval e X.env) = eval e X.env) : PE X (.Attribute e f pos) (tFld X.K ta f) := by
  intro pins s σ H Q I h
  refine attr_of hb (thn (he pins s σ H _ I h) fun u s1 ⟨x, H1, I1, rx, a, C, dx, fs, v, ex, ea, c, n, l, q⟩ => ?_)
  subst ex
  obtain rfl : u = Value.ref a := rx
  exact getattr_ok I1 ea c n l fun u' s2 I2 ru => ⟨v, H1, I2, ru, q⟩
theorem pe_con (he : PE X e ta) (hb : attributeBase e f X.env (eval e X.env) = eval e X.env) : PE X (.Attribute e f pos) (tCon X.K ta f) := by
  intro pins s σ H Q I h
  refine attr_of hb (thn (he pins s σ H _ I h) fun u s1 ⟨x, H1, I1, rx, a, C, dx, fs, v, u0, ex, ea, c, k, l, q⟩ => ?_)
  subst ex
  obtain rfl : u = Value.ref a := rx
  exact getcon_ok I1 ea c k l fun s2 I2 => ⟨v, H1, I2, k.rel, q⟩
theorem ps_fld (ha : PE X o ta) (hv : PE X value tv) (hs : swapsWith value (some (.Attribute o f pos')) pos.line X.env = pure false) : PS X (.Assign [.Attribute o f pos'] value pos) (sFld X.K ta tv f) := by
  intro pins s σ H D I h
  refine plainObj_wpAny_Assign_Attribute (thn (hv pins s σ H _ I h) fun u s1 ⟨y, H1, I1, ry, q⟩ => thn (ha pins s1 σ H1 _ I1 q) fun ov s2 ⟨x, H2, I2, rx, a, C, dx, fs, ex, ea, c, n, l, q2⟩ => ?_) hs
  subst ex
  obtain rfl : ov = Value.ref a := rx
  exact setattr_ok I2 ea c n l ry fun s3 I3 => ⟨σ, _, I3, q2⟩
theorem ps_fldaug {op : Operator} {rd : V → V → Hp → VK → Prop} (ha : PE X o ta) (hv : PE X value tv) (hop : InOp X op rd) : PS X (.AugAssign (.Attribute o f tpos) op value pos) (sFldAug X.K ta tv rd f) := by
  intro pins s σ H D I h
  refine wpAny_AugAssign_AttributeAny (thn (ha pins s σ H _ I h) fun ov s1 ⟨x, H1, I1, rx, a, C, dx, fs, v, ex, ea, c, n, l, q⟩ => ?_)
  subst ex
  obtain rfl : ov = Value.ref a := rx
  refine getattr_ok I1 ea c n l fun u s2 I2 ru => thn (hv pins s2 σ H1 _ I2 q) fun w3 s3 ⟨y, H2, I3, ry, q3⟩ => thn (hop pins s3 σ H2 v y u w3 _ I3 ru ry q3) fun w4 s4 ⟨z, H3, I4, rz, dx', fs', ea', l', q4⟩ => ?_
  exact setattr_ok I4 ea' c n l' rz fun s5 I5 => ⟨σ, _, I5, q4⟩
def rAdd : V → V → Hp → VK → Prop := fun x y H Q => ∃ i j, x = .int i ∧ y = .int j ∧ Q (.int (i + j)) H
def rSub : V → V → Hp → VK → Prop := fun x y H Q => ∃ i j, x = .int i ∧ y = .int j ∧ Q (.int (i - j)) H
theorem in_add : InOp X .Add rAdd := by
  rintro pins s σ H x y u v Q I rx ry ⟨i, j, rfl, rfl, q⟩
  obtain ⟨t, rfl⟩ := (show ∃ t, u = Value.int i t from rx)
  obtain ⟨t', rfl⟩ := (show ∃ t', v = Value.int j t' from ry)
  exact PyProof.Rows.iadd_int ⟨.int (i + j), H, I.tok _, ⟨_, rfl⟩, q⟩
theorem in_sub : InOp X .Sub rSub := by
  rintro pins s σ H x y u v Q I rx ry ⟨i, j, rfl, rfl, q⟩
  obtain ⟨t, rfl⟩ := (show ∃ t, u = Value.int i t from rx)
  obtain ⟨t', rfl⟩ := (show ∃ t', v = Value.int j t' from ry)
  exact PyProof.Rows.isub_int ⟨.int (i - j), H, I.tok _, ⟨_, rfl⟩, q⟩

/-- what is between an instance and its method: the tree of a method call -/
theorem methcall_of {pl : Sem Bool} {m : Str} {apos : Pos} {args : List Expr} {pins : List (Addr × Obj)} {s : Shared} {σ : St} {H : Hp} {Q : Value → Shared → Prop} {te : TE} (he : PE X e te) (I : Inv X pins σ H s)
    (h : te σ H fun x H1 => ∃ a C dx fs g, x = .ref a ∧ H1 a = some (.ins C dx fs) ∧ Cls X.K C ∧ Meth X.K C m g ∧ fs.lookup m = none ∧
      ∀ s1, Inv X pins σ H1 s1 → wpAny (model X.prog X.w) X.A (callWith pos (.ref g) [.ref a] (backTo pos (starEach args X.env)) (backToKw pos (keywordEach [] X.env))) Q X.xe s1)
    (ht : eval (.Call (.Attribute e m apos) args [] pos) X.env = (do
      let ov ← eval e X.env
      standAt apos.atName
      let (f, first) ← holding [ov] (getMethod ov m pl)
      callWith pos f first (backTo pos (starEach args X.env)) (backToKw pos (keywordEach [] X.env)))) :
    wpAny (model X.prog X.w) X.A (eval (.Call (.Attribute e m apos) args [] pos) X.env) Q X.xe s := by
  refine PySem.W.methodCall_KW (pl := pl) (thn (he pins s σ H _ I h) fun u s1 ⟨x, H1, I1, rx, a, C, dx, fs, g, ex, ea, c, k, l, q⟩ => ?_) ht
  subst ex
  obtain rfl : u = Value.ref a := rx
  exact getmeth_ok I1 ea c k l (q s1 I1)
end

/-! ### isinstance -/
section
variable {X : Cx} {pins : List (Addr × Obj)} {σ : St} {H : Hp} {s : Shared} {A : Around} {E : Value → Shared → Prop} {Q : Value → Shared → Prop} {c : Value} {b : Bool}
/-- the type of a value, as the fragment's deciders take it; for an instance its class -/
inductive TyOf (K : PySem.W.Frag) (H : Hp) : V → Value → Prop where
  | non : TyOf K H .non (.type "NoneType")
  | bl (x : Bool) : TyOf K H (.bl x) (.type "bool")
  | int (i : Int) : TyOf K H (.int i) (.type "int")
  | str (x : Str) : TyOf K H (.str x) (.type "str")
  | flt (x : UInt64) : TyOf K H (.flt x) (.type "float")
  | lst {a : Addr} {xs : List V} (e : H a = some (.lst xs)) : TyOf K H (.ref a) (.type "list")
  | frz {a : Addr} {o : Obj} {xs : List V} (e : H a = some (.frz o (.lst xs))) : TyOf K H (.ref a) (.type "list")
  | tup {a : Addr} {xs : List V} (e : H a = some (.tup xs)) : TyOf K H (.ref a) (.type "tuple")
  | dK {a : Addr} {kvs : List (Key × V)} (e : H a = some (.dK kvs)) : TyOf K H (.ref a) (.type "dict")
  | dT {a : Addr} {kvs : List (List Key × V)} (e : H a = some (.dT kvs)) : TyOf K H (.ref a) (.type "dict")
  | ins {a C dx : Addr} {fs : List (Str × V)} (e : H a = some (.ins C dx fs)) (cl : Cls K C) (ha : PySem.W.findIn K (.ref C) "__class__" = some (some (.builtin "object.__class__")))
      (hn : PySem.W.specialIn K (.builtin "object.__class__") "__get__" = some (some (.builtin "getset_descriptor.__get__"))) (htk : PySem.W.takesIn K (.builtin "object.__class__") = some true)
      (hm : PySem.W.mroIn K C (.type "object") = some true) : TyOf K H (.ref a) (.ref C)
/-- isinstance(x, c) for one class c, a built-in or an own one: kitOne's answer -/
theorem isinst_ok {x : V} {u t : Value} (I : Inv X pins σ H s) (rx : RelV x u) (ty : TyOf X.K H x t) (e : PySem.W.kitOne X.K t c = some b) (h : ∀ tk, Q (.bool b) { s with toks := tk }) :
    wpAny (model X.prog X.w) A (call (.builtin "isinstance") [u, c]) Q E s := by
  cases ty with
  | non => cases (show u = Value.none from rx); exact PySem.W.kia_one PySem.W.kitx_none I.kIn True.intro e (fun z => nomatch z) h
  | bl y => cases (show u = Value.bool y from rx); exact PySem.W.kia_one PySem.W.kitx_bool I.kIn True.intro e (fun z => nomatch z) h
  | int i => obtain ⟨t, q⟩ := (show ∃ t, u = Value.int i t from rx); cases q; exact PySem.W.kia_one PySem.W.kitx_int I.kIn True.intro e (fun z => nomatch z) h
  | str y => obtain ⟨t, q⟩ := (show ∃ t, u = Value.str y t from rx); cases q; exact PySem.W.kia_one PySem.W.kitx_str I.kIn True.intro e (fun z => nomatch z) h
  | flt y => obtain ⟨t, q⟩ := (show ∃ t, u = Value.float y t from rx); cases q; exact PySem.W.kia_one PySem.W.kitx_float I.kIn True.intro e (fun z => nomatch z) h
  | @lst a xs ea =>
    cases (show u = Value.ref a from rx)
    obtain ⟨_, _, n, _, h1⟩ := (show ObjOk X.prog X.w H s.heap a (.lst xs) from I.hok a _ ea)
    exact PySem.W.kia_one PySem.W.kitx_list I.kIn ⟨_, h1, rfl⟩ e (fun z => nomatch z) h
  | @frz a ob xs ea =>
    cases (show u = Value.ref a from rx)
    obtain ⟨_, _, _, n, _, h1⟩ := (show ObjOk X.prog X.w H s.heap a (.frz ob (.lst xs)) from I.hok a _ ea)
    exact PySem.W.kia_one PySem.W.kitx_list I.kIn ⟨_, h1, rfl⟩ e (fun z => nomatch z) h
  | @tup a xs ea =>
    cases (show u = Value.ref a from rx)
    obtain ⟨_, _, _, p⟩ := (show ObjOk X.prog X.w H s.heap a (.tup xs) from I.hok a _ ea)
    obtain ⟨o, h1, h2, _⟩ := p
    exact PySem.W.kia_one PySem.W.kitx_tuple I.kIn ⟨o, h1, h2⟩ e (fun z => nomatch z) h
  | @dK a kvs ea =>
    cases (show u = Value.ref a from rx)
    obtain ⟨_, _, vs, _, p⟩ := (show ObjOk X.prog X.w H s.heap a (.dK kvs) from I.hok a _ ea)
    obtain ⟨o, es, ep, h1, h2, _⟩ := p
    exact PySem.W.kia_one PySem.W.kitx_dict I.kIn ⟨o, h1, h2.1⟩ e (fun z => nomatch z) h
  | @dT a kvs ea =>
    cases (show u = Value.ref a from rx)
    obtain ⟨_, _, xs, _, o, es, ep, h1, h2, _⟩ := (show ObjOk X.prog X.w H s.heap a (.dT kvs) from I.hok a _ ea)
    exact PySem.W.kia_one PySem.W.kitx_dict I.kIn ⟨o, h1, h2.1⟩ e (fun z => nomatch z) h
  | @ins a C dx fs ea cl ha hn htk hm =>
    cases (show u = Value.ref a from rx)
    obtain ⟨mA, O, _⟩ := ins_get I.hok ea
    obtain ⟨od, J, _⟩ := O.look
    exact PySem.W.kia_one (PySem.W.kitx_own (cl.get _) cl.hd ha hn htk hm) I.kIn J e (fun z => nomatch z) h
end
end L2

namespace L2
open PySem PySem.Spec PyProof.Rows

/-! ### room -/
structure Room (k : Nat) (A : Around) : Prop where
  hd : A.handled = none
  dp : A.depth + 3 * k + 5 < recursionLimit
  un : A.units + 16 * k + 200 < cLine
theorem Room.mono {j k : Nat} {A : Around} (r : Room k A) (h : j ≤ k) : Room j A := ⟨r.hd, by have := r.dp; omega, by have := r.un; omega⟩
theorem Room.deeper {k : Nat} {A : Around} (r : Room (k + 1) A) (env : Env) : Room k (A.deeper env) :=
  ⟨r.hd, by have := r.dp; show A.depth + 1 + 3 * k + 5 < _; omega, by have := r.un; show A.units + 3 + 16 * k + 200 < _; omega⟩
theorem Room.in1 {k : Nat} {A : Around} (r : Room (k + 1) A) : Room k A.in1 :=
  ⟨r.hd, by have := r.dp; show A.depth + 3 * k + 5 < _; omega, by have := r.un; show A.units + 1 + 16 * k + 200 < _; omega⟩
theorem make_depth {A : Around} {C : Addr} {us : List Value} {kw : List (Str × Value)} : (A.under (.builtin "type.__call__" ⟨.ref C :: us, kw⟩)).depth = A.depth + 1 := by
  first | rfl | simp [Around.under, Code.weight, Code.isCreation, Code.isGuard, Code.isCaller, Code.frames, Code.isFrame, guardIds]
theorem make_units {A : Around} {C : Addr} {us : List Value} {kw : List (Str × Value)} : (A.under (.builtin "type.__call__" ⟨.ref C :: us, kw⟩)).units = A.units + 1 := by
  first | rfl | simp [Around.under, Code.cUnits, Code.frames, Code.isFrame]
theorem Room.make {k : Nat} {A : Around} (r : Room (k + 1) A) (C : Addr) (us : List Value) (kw : List (Str × Value)) : Room k (A.under (.builtin "type.__call__" ⟨.ref C :: us, kw⟩)) :=
  ⟨r.hd, by have := r.dp; rw [make_depth]; omega, by have := r.un; rw [make_units]; omega⟩
theorem Room.depth {k : Nat} {A : Around} (r : Room k A) : A.depth < recursionLimit := by have := r.dp; omega
theorem Room.units {k : Nat} {A : Around} (r : Room k A) : A.units + 64 < cLine := by have := r.un; omega
theorem Room.units0 {k : Nat} {A : Around} (r : Room k A) : A.units < cLine := by have := r.un; omega

/-! ### argument lists and displays -/
def tNil : TA := fun _ H Q => Q [] H
def tCons (ta : TE) (tr : TA) : TA := fun σ H Q => ta σ H fun x H1 => tr σ H1 fun xs H2 => Q (x :: xs) H2
section
variable {X : Cx} {e : Expr} {es : List Expr} {te : TE} {t : TA} {pos : Pos}
theorem pa_nil : PA X [] tNil := fun _ _ _ _ H Q I h => Calls.spliced_nil ⟨[], H, I, .nil, h⟩
theorem pa_cons (ha : PE X e te) (hr : PA X es t) (hs : starEach (e :: es) X.env = (false, eval e X.env) :: starEach es X.env := by rfl) : PA X (e :: es) (tCons te t) := by
  intro pos pins s σ H Q I h
  rw [hs]
  show wpAny _ _ (spliced ((false, eval e X.env) :: backTo pos (starEach es X.env))) _ _ s
  refine Calls.spliced_cons (thn (ha pins s σ H _ I h) fun u s1 ⟨x, H1, I1, r1, q1⟩ => ?_)
  exact thn (hr pos pins s1 σ H1 _ I1 q1) fun us s2 ⟨xs, H2, I2, r2, q2⟩ => ⟨x :: xs, H2, I2, .cons r1 r2, q2⟩

/-- a tuple, a list of written items -/
def tTup (t : TA) : TE := fun σ H Q => t σ H fun xs H1 => xs.length ≤ sizeLine ∧ ∀ p, H1 p = none → Q (.ref p) (upd H1 p (.tup xs))
def tLst (t : TA) : TE := fun σ H Q => t σ H fun xs H1 => xs.length ≤ sizeLine ∧ ∀ p, H1 p = none → Q (.ref p) (upd H1 p (.lst xs))
theorem pe_tup {x1} (h : PA X es t) : PE X (.Tuple es x1 pos) (tTup t) := by
  intro pins s σ H Q I hq
  refine wpAny_Tuple_spliced (thn (h pos pins s σ H _ I hq) fun us s1 ⟨xs, H1, I1, r, z, q⟩ => ⟨by rw [← r.length]; exact z, ?_⟩)
  have hf : H1 s1.heap.objs.size = none := I1.hok.fresh (Nat.le_refl _)
  refine ⟨.ref s1.heap.objs.size, upd H1 s1.heap.objs.size (.tup xs), I1.laid (t' := s1.toks) (fun b u e => Heap.get?_push_of_some _ e) (Nat.le_refl _) ?_, rfl, q _ hf⟩
  exact ⟨z, us, r, ⟨_, Heap.get?_push_size _ rfl, rfl, _, rfl⟩⟩
theorem pe_lst (h : PA X es t) : PE X (.List es pos) (tLst t) := by
  intro pins s σ H Q I hq
  refine wpAny_List_spliced (thn (h pos pins s σ H _ I hq) fun us s1 ⟨xs, H1, I1, r, z, q⟩ => ⟨by rw [← r.length]; exact z, ?_⟩)
  have hf : H1 s1.heap.objs.size = none := I1.hok.fresh (Nat.le_refl _)
  refine ⟨.ref s1.heap.objs.size, upd H1 s1.heap.objs.size (.lst xs), I1.laid (t' := s1.toks) (fun b u e => Heap.get?_push_of_some _ e) (Nat.le_refl _) ?_, rfl, q _ hf⟩
  exact ⟨z, us, 0, r, Heap.get?_push_size _ rfl⟩
end

/-! ### what a def promises -/
/-- a def's promise: the bound arguments in the parameters' order, the heap, the wanted end, the wanted exception -/
abbrev Sp := List V → Hp → VK → XK → Prop
/-- how an exception lies behind a call (file 08 gives it): the callers' frames, abstract heap and state ahead of the call, the wish, the exception, the state -/
abbrev CXT := List Env → Hp → Shared → XK → Value → Shared → Prop

/-- the state at a call -/
structure Env0 (P : Program) (w : World) (K : PySem.W.Frag) (mg : Str → Option Value) (base : Heap) (A : Around) (outer : List Env) (s : Shared) (H : Hp) : Prop where
  frames : A.frames = some outer
  mod : Mod K mg base
  bs : ∀ b o, base.get? b = some o → s.heap.get? b = some o ∧ H b = none
  bsz : base.objs.size ≤ s.heap.objs.size
  funs : s.heap.FunFrames base outer
  frf : ∀ b ∈ frs outer, H b = none
  hok : HOk P w H s.heap
  bare : AllBare s.gens
/-- a call's end -/
def CE (outer : List Env) (P : Program) (w : World) (H : Hp) (s : Shared) (Q : VK) (u : Value) (s' : Shared) : Prop :=
  ∃ v H', s'.os = s.os ∧ AllBare s'.gens ∧ Un (frs outer) [] H H' s.heap s'.heap ∧ HOk P w H' s'.heap ∧ RelV v u ∧ Q v H'
def CR (CX : CXT) (outer : List Env) (P : Program) (w : World) (H : Hp) (s : Shared) (Q : VK) (E : XK) (r : Result) (s' : Shared) : Prop :=
  match r with
  | .ok (.ret u) => CE outer P w H s Q u s'
  | .ok _ => False
  | .error e => CX outer H s E e s'
structure FnOk (P : Program) (w : World) (K : PySem.W.Frag) (mg : Str → Option Value) (base : Heap) (CX : CXT) (k : Nat) (f : Addr) (fd : FuncData) (ps : List Str) (sp : Sp) : Prop where
  len : ∀ vs H Q E, sp vs H Q E → vs.length = ps.length
  run : ∀ (A : Around) (outer : List Env) (s : Shared) (H : Hp) (args : Args) (us : List Value) (vs : List V) (Q : VK) (E : XK), Room k A → Env0 P w K mg base A outer s H → BindsTo s fd args (ps.zip us) → Vals vs us → sp vs H Q E →
    codeAny (model P w) A (.call (.ref f) args) (CR CX outer P w H s Q E) s
theorem FnOk.mono {P : Program} {w : World} {K : PySem.W.Frag} {mg : Str → Option Value} {base : Heap} {CX : CXT} {j k : Nat} {f : Addr} {fd : FuncData} {ps : List Str} {sp : Sp} (F : FnOk P w K mg base CX j f fd ps sp) (h : j ≤ k) :
    FnOk P w K mg base CX k f fd ps sp := ⟨F.len, fun A outer s H args us vs Q E hr => F.run A outer s H args us vs Q E (hr.mono h)⟩
/-- a weaker promise -/
theorem FnOk.imp {P : Program} {w : World} {K : PySem.W.Frag} {mg : Str → Option Value} {base : Heap} {CX : CXT} {k : Nat} {f : Addr} {fd : FuncData} {ps : List Str} {sp sp' : Sp} (F : FnOk P w K mg base CX k f fd ps sp)
    (h : ∀ vs H Q E, sp' vs H Q E → sp vs H Q E) : FnOk P w K mg base CX k f fd ps sp' :=
  ⟨fun vs H Q E q => F.len vs H Q E (h _ _ _ _ q), fun A outer s H args us vs Q E hr he hb hv hs => F.run A outer s H args us vs Q E hr he hb hv (h _ _ _ _ hs)⟩

theorem Env0.make {P : Program} {w : World} {K : PySem.W.Frag} {mg : Str → Option Value} {base : Heap} {A : Around} {outer : List Env} {s : Shared} {H : Hp} (e : Env0 P w K mg base A outer s H) (C : Addr) (us : List Value) (kw : List (Str × Value)) :
    Env0 P w K mg base (A.under (.builtin "type.__call__" ⟨.ref C :: us, kw⟩)) outer s H := ⟨by first | exact e.frames | (simpa [Around.under, Code.envs, Code.isFrame, pushEnvs] using e.frames), e.mod, e.bs, e.bsz, e.funs, e.frf, e.hok, e.bare⟩
theorem Env0.in1 {P : Program} {w : World} {K : PySem.W.Frag} {mg : Str → Option Value} {base : Heap} {A : Around} {outer : List Env} {s : Shared} {H : Hp} (e : Env0 P w K mg base A outer s H) :
    Env0 P w K mg base A.in1 outer s H := ⟨e.frames, e.mod, e.bs, e.bsz, e.funs, e.frf, e.hok, e.bare⟩

section
variable {X : Cx} {pins : List (Addr × Obj)} {σ : St} {H : Hp} {s s' : Shared}
/-- from a body: what a callee wants -/
theorem Inv.env0 (I : Inv X pins σ H s) : Env0 X.prog X.w X.K X.mg X.base X.A X.stack s H :=
  ⟨I.ok.frames, I.ok.mod, I.bs, Nat.le_trans I.ok.bsz I.sz, I.stack, I.stkFree, I.hok, I.bare⟩
/-- behind a call -/
theorem Inv.after {Q : VK} {u : Value} (I : Inv X pins σ H s) (h : CE X.stack X.prog X.w H s Q u s') : EP X pins σ Q u s' := by
  obtain ⟨v, H', os, bare, un, hok, r, q⟩ := h
  obtain ⟨hh, g, d, t, os'⟩ := s'
  obtain rfl : os' = s.os := os
  exact ⟨v, H', I.call (h' := hh) (g' := g) (d' := d) (t' := t) (ch := []) un hok bare (fun b z => absurd z (by simp)), r, q⟩
end

/-! ### calls -/
/-- f(..): the written arguments, then the defaults dvs; E: what is wanted of an exception -/
def tCall (sp : Sp) (dvs : List V) (E : XK) (t : TA) : TE := fun σ H Q => t σ H fun vs H1 => sp (vs ++ dvs) H1 Q E
/-- o.m(..) of an instance of the class at C -/
def tMeth (C : Addr) (m : Str) (sp : Sp) (dvs : List V) (E : XK) (ta : TE) (t : TA) : TE := fun σ H Q => ta σ H fun x H1 => ∃ a dx fs, x = .ref a ∧ H1 a = some (.ins C dx fs) ∧ fs.lookup m = none ∧
  t σ H1 fun vs H2 => sp (x :: (vs ++ dvs)) H2 Q E
/-- C(..): a new instance and its dict, then __init__ -/
def tMake (C : Addr) (sp : Sp) (dvs : List V) (E : XK) (t : TA) : TE := fun σ H Q => t σ H fun vs H1 => ∀ x dx, H1 x = none → H1 dx = none → dx ≠ x →
  sp (.ref x :: (vs ++ dvs)) (upd (upd H1 dx (.own x)) x (.ins C dx [])) (fun v H2 => v = .non ∧ Q (.ref x) H2) E

/-- how the parameters are bound: us the positional arguments, kw the keywords' values by name, ds the defaults that fill up -/
def Binds (K : PySem.W.Frag) (fd : FuncData) (ps : List Str) (ds : List Value) : Prop :=
  ∀ (s : Shared) (us : List Value), K.In s.heap → (us ++ ds).length = ps.length → BindsTo s fd ⟨us, []⟩ (ps.zip (us ++ ds))
/-- every parameter is given -/
theorem Binds.all {K : PySem.W.Frag} {fd : FuncData} {ps : List Str} (h : ∀ us : List Value, us.length = ps.length → bindArgs fd ⟨us, []⟩ = pure (ps.zip us)) : Binds K fd ps [] := fun s us _ hl => by
  rw [List.append_nil] at hl ⊢
  exact .of_eq (h us hl)

/-- an exception of a callee reaches what this body wants of exceptions -/
def Passes (CX : CXT) (X : Cx) (E : XK) : Prop := ∀ (pins : List (Addr × Obj)) (σ : St) (H : Hp) (s : Shared) (e : Value) (s' : Shared), Inv X pins σ H s → CX X.stack H s E e s' → X.xe e s'

section
variable {X : Cx} {CX : CXT} {k : Nat} {f C : Addr} {fd : FuncData} {ps : List Str} {sp : Sp} {dvs : List V} {ds : List Value} {E : XK} {x m : Str} {p pos apos : Pos} {e o : Expr} {es : List Expr} {ta : TE} {t : TA}

/-- the callee runs -/
theorem run_fn {pins : List (Addr × Obj)} {σ : St} {H : Hp} {s : Shared} {Q : VK} {us : List Value} {vs : List V} (F : FnOk X.prog X.w X.K X.mg X.base CX k f fd ps sp) (hr : Room k X.A) (hb : Binds X.K fd ps ds) (hd : Vals dvs ds) (hx : Passes CX X E)
    (I : Inv X pins σ H s) (r : Vals vs us) (h : sp (vs ++ dvs) H Q E) : wpAny (model X.prog X.w) X.A (call (.ref f) us) (EP X pins σ Q) X.xe s := by
  have r2 : Vals (vs ++ dvs) (us ++ ds) := r.append hd
  have hl : (us ++ ds).length = ps.length := by rw [← r2.length]; exact F.len _ _ _ _ h
  refine wpAny_call (codeAny_mono (F.run X.A X.stack s H ⟨us, []⟩ (us ++ ds) (vs ++ dvs) Q E hr I.env0 (hb s us I.kIn hl) r2 h) fun r s' hq => ?_)
  cases r with
  | error e => exact hx pins σ H s e s' I hq
  | ok fl =>
    cases fl with
    | ret u => exact I.after hq
    | next => exact False.elim hq
    | brk => exact False.elim hq
    | cont => exact False.elim hq

theorem pe_call (F : FnOk X.prog X.w X.K X.mg X.base CX k f fd ps sp) (hr : Room k X.A) (hg : Gl X x) (hm : X.mg x = some (.ref f)) (hk : PySem.W.keepIn X.K (.ref f) = true) (hb : Binds X.K fd ps ds) (hd : Vals dvs ds) (hx : Passes CX X E)
    (ha : PA X (e :: es) t) (hdb : (x == ("__debug__" : Str)) = false := by decide) (he : starEach (e :: es) X.env = (false, eval e X.env) :: starEach es X.env := by rfl) (hpl : (backTo pos (starEach es X.env)).any (·.1) = false := by rfl) :
    PE X (.Call (.Name x p) (e :: es) [] pos) (tCall sp dvs E t) := by
  intro pins s σ H Q I h
  refine wpAny_Call_Name_kw (ld_glob I hg hm ?_ hdb)
  refine PySem.W.callWith_K (h₀ := X.base) I.ok.mod.kin hk (thn (ha pos pins s σ H _ I h) fun us s1 ⟨vs, H1, I1, r, q⟩ => ⟨I1.kIn, ?_⟩) he hpl
  exact run_fn F hr hb hd hx I1 r q
theorem pe_call0 (F : FnOk X.prog X.w X.K X.mg X.base CX k f fd ps sp) (hr : Room k X.A) (hg : Gl X x) (hm : X.mg x = some (.ref f)) (hk : PySem.W.keepIn X.K (.ref f) = true) (hb : Binds X.K fd ps ds) (hd : Vals dvs ds) (hx : Passes CX X E)
    (hdb : (x == ("__debug__" : Str)) = false := by decide) : PE X (.Call (.Name x p) [] [] pos) (tCall sp dvs E tNil) := by
  intro pins s σ H Q I h
  refine wpAny_Call_Name_kw (ld_glob I hg hm ?_ hdb)
  exact PySem.W.callWith_K0 I.kIn hk (run_fn (us := []) F hr hb hd hx I .nil h)

/-- o.m(e, ..) -/
theorem pe_meth {pl : Sem Bool} (he : PE X o ta) (c : Cls X.K C) (hm : Meth X.K C m f) (F : FnOk X.prog X.w X.K X.mg X.base CX k f fd ps sp) (hr : Room k X.A) (hb : Binds X.K fd ps ds) (hd : Vals dvs ds) (hx : Passes CX X E) (ha : PA X (e :: es) t)
    (hst : starEach (e :: es) X.env = (false, eval e X.env) :: starEach es X.env := by rfl) (hpl : (backTo pos (starEach es X.env)).any (·.1) = false := by rfl)
    (ht : eval (.Call (.Attribute o m apos) (e :: es) [] pos) X.env = (do
      let ov ← eval o X.env
      standAt apos.atName
      let (f, first) ← holding [ov] (getMethod ov m pl)
      callWith pos f first (backTo pos (starEach (e :: es) X.env)) (backToKw pos (keywordEach [] X.env))) := by rfl) :
    PE X (.Call (.Attribute o m apos) (e :: es) [] pos) (tMeth C m sp dvs E ta t) := by
  intro pins s σ H Q I h
  refine PySem.W.methodCall_KW (pl := pl) (thn (he pins s σ H _ I h) fun u s1 ⟨x, H1, I1, rx, a, dx, fs, ex, ea, l, q⟩ => ?_) ht
  subst ex
  obtain rfl : u = Value.ref a := rx
  refine getmeth_ok I1 ea c hm l ?_
  refine PySem.W.callWith_K (first := [.ref a]) (h₀ := X.base) I.ok.mod.kin hm.kp (thn (ha pos pins s1 σ H1 _ I1 q) fun us s2 ⟨vs, H2, I2, r, q2⟩ => ⟨I2.kIn, ?_⟩) hst hpl
  exact run_fn (us := .ref a :: us) (vs := .ref a :: vs) F hr hb hd hx I2 (.cons rfl r) q2
/-- o.m() -/
theorem pe_meth0 {pl : Sem Bool} (he : PE X o ta) (c : Cls X.K C) (hm : Meth X.K C m f) (F : FnOk X.prog X.w X.K X.mg X.base CX k f fd ps sp) (hr : Room k X.A) (hb : Binds X.K fd ps ds) (hd : Vals dvs ds) (hx : Passes CX X E)
    (ht : eval (.Call (.Attribute o m apos) [] [] pos) X.env = (do
      let ov ← eval o X.env
      standAt apos.atName
      let (f, first) ← holding [ov] (getMethod ov m pl)
      callWith pos f first (backTo pos (starEach [] X.env)) (backToKw pos (keywordEach [] X.env))) := by rfl) :
    PE X (.Call (.Attribute o m apos) [] [] pos) (tMeth C m sp dvs E ta tNil) := by
  intro pins s σ H Q I h
  refine PySem.W.methodCall_KW (pl := pl) (thn (he pins s σ H _ I h) fun u s1 ⟨x, H1, I1, rx, a, dx, fs, ex, ea, l, q⟩ => ?_) ht
  subst ex
  obtain rfl : u = Value.ref a := rx
  refine getmeth_ok I1 ea c hm l ?_
  exact PySem.W.callWith_K0 (first := [.ref a]) I1.kIn hm.kp (run_fn (us := [.ref a]) (vs := [.ref a]) F hr hb hd hx I1 (.cons rfl .nil) q)

/-- what a class must have to be made -/
structure Mk (K : PySem.W.Frag) (C f : Addr) : Prop where
  makes : PySem.W.makesIn K C = true
  init : PySem.W.findIn K (.ref C) "__init__" = some (some (.ref f))
  fn : PySem.W.isFn K (.ref f) = true
  kp : PySem.W.keepIn K (.ref C) = true

theorem run_make {pins : List (Addr × Obj)} {σ : St} {H : Hp} {s : Shared} {Q : VK} {us : List Value} {vs : List V} (M : Mk X.K C f) (F : FnOk X.prog X.w X.K X.mg X.base CX k f fd ps sp) (hr : Room (k + 1) X.A) (hb : Binds X.K fd ps ds) (hd : Vals dvs ds)
    (hx : Passes CX X E) (I : Inv X pins σ H s) (r : Vals vs us)
    (h : ∀ x dx, H x = none → H dx = none → dx ≠ x → sp (.ref x :: (vs ++ dvs)) (upd (upd H dx (.own x)) x (.ins C dx [])) (fun v H2 => v = .non ∧ Q (.ref x) H2) E) :
    wpAny (model X.prog X.w) X.A (call (.ref C) us) (EP X pins σ Q) X.xe s := by
  have hq := h (s.heap.objs.size + 1) s.heap.objs.size (I.hok.fresh (Nat.le_succ _)) (I.hok.fresh (Nat.le_refl _)) (Nat.ne_of_lt (Nat.lt_succ_self _))
  have I2 := Inv.made (C := C) I
  have r2 : Vals (V.ref (s.heap.objs.size + 1) :: (vs ++ dvs)) (Value.ref (s.heap.objs.size + 1) :: (us ++ ds)) := .cons rfl (r.append hd)
  have hl : (Value.ref (s.heap.objs.size + 1) :: us ++ ds).length = ps.length := by
    have e := r2.length
    rw [F.len _ _ _ _ hq] at e
    exact e.symm
  refine wpAny_call (make_map (f := f) I.kIn M.makes M.init (beq_iff_eq.mp M.fn) (codeAny_mono (F.run _ X.stack _ _ ⟨Value.ref (s.heap.objs.size + 1) :: us, []⟩ (Value.ref (s.heap.objs.size + 1) :: (us ++ ds)) _ _ E (hr.make C us [])
    (I2.env0.make C us []) (hb _ (Value.ref (s.heap.objs.size + 1) :: us) I2.kIn hl) r2 hq) fun r s' hq' => ?_))
  cases r with
  | error e => exact hx pins σ _ _ e s' I2 hq'
  | ok fl =>
    cases fl with
    | ret u =>
      obtain ⟨v, H', I3, rv, ev, q3⟩ := I2.after hq'
      subst ev
      exact ⟨rv, ⟨V.ref (s.heap.objs.size + 1), H', I3, rfl, q3⟩⟩
    | next => exact False.elim hq'
    | brk => exact False.elim hq'
    | cont => exact False.elim hq'
theorem pe_make (M : Mk X.K C f) (F : FnOk X.prog X.w X.K X.mg X.base CX k f fd ps sp) (hr : Room (k + 1) X.A) (hg : Gl X x) (hm : X.mg x = some (.ref C)) (hb : Binds X.K fd ps ds) (hd : Vals dvs ds) (hx : Passes CX X E)
    (ha : PA X (e :: es) t) (hdb : (x == ("__debug__" : Str)) = false := by decide) (he : starEach (e :: es) X.env = (false, eval e X.env) :: starEach es X.env := by rfl) (hpl : (backTo pos (starEach es X.env)).any (·.1) = false := by rfl) :
    PE X (.Call (.Name x p) (e :: es) [] pos) (tMake C sp dvs E t) := by
  intro pins s σ H Q I h
  refine wpAny_Call_Name_kw (ld_glob I hg hm ?_ hdb)
  refine PySem.W.callWith_K (h₀ := X.base) I.ok.mod.kin M.kp (thn (ha pos pins s σ H _ I h) fun us s1 ⟨vs, H1, I1, r, q⟩ => ⟨I1.kIn, ?_⟩) he hpl
  exact run_make M F hr hb hd hx I1 r q
theorem pe_make0 (M : Mk X.K C f) (F : FnOk X.prog X.w X.K X.mg X.base CX k f fd ps sp) (hr : Room (k + 1) X.A) (hg : Gl X x) (hm : X.mg x = some (.ref C)) (hb : Binds X.K fd ps ds) (hd : Vals dvs ds) (hx : Passes CX X E)
    (hdb : (x == ("__debug__" : Str)) = false := by decide) : PE X (.Call (.Name x p) [] [] pos) (tMake C sp dvs E tNil) := by
  intro pins s σ H Q I h
  refine wpAny_Call_Name_kw (ld_glob I hg hm ?_ hdb)
  exact PySem.W.callWith_K0 I.kIn M.kp (run_make (us := []) M F hr hb hd hx I .nil h)
end

/-! ### keywords -/
/-- the values of the keywords, from the left -/
def PK (X : Cx) (kws : List Keyword) (t : TA) : Prop :=
  ∀ (pos : Pos) (pins : List (Addr × Obj)) (s : Shared) (σ : St) (H : Hp) (Q : List V → Hp → Prop), Inv X pins σ H s → t σ H Q → wpAny (model X.prog X.w) X.A (evalAll ((backToKw pos (keywordEach kws X.env)).map (·.2))) (AP X pins σ Q) X.xe s
section
variable {X : Cx} {CX : CXT} {k : Nat} {f C : Addr} {fd : FuncData} {ps ks : List Str} {sp : Sp} {E : XK} {x m : Str} {p pos apos kpos : Pos} {e o : Expr} {es : List Expr} {kws : List Keyword} {te ta : TE} {t tk : TA} {nm : Option Str}
theorem pk_nil : PK X [] tNil := fun _ _ _ _ H Q I h => wpAny_evalAll_nil ⟨[], H, I, .nil, h⟩
theorem pk_cons (ha : PE X e te) (hr : PK X kws t) : PK X (⟨nm, e, kpos⟩ :: kws) (tCons te t) := by
  intro pos pins s σ H Q I h
  show wpAny _ _ (evalAll ((do let v ← eval e X.env; standAt pos; pure v) :: (backToKw pos (keywordEach kws X.env)).map (·.2))) _ _ s
  refine wpAny_evalAll_cons (wpAny_bind (thn (ha pins s σ H _ I h) fun u s1 ⟨x, H1, I1, r1, q1⟩ => wpAny_bind (wpAny_standAt (wpAny_pure ?_))))
  exact thn (hr pos pins s1 σ H1 _ I1 q1) fun us s2 ⟨xs, H2, I2, r2, q2⟩ => ⟨x :: xs, H2, I2, .cons r1 r2, q2⟩

/-- how a call with keywords binds: g puts the positional values us and the keywords' values ws (names ks) in the parameters' order, defaults among them -/
structure KBinds (K : PySem.W.Frag) (fd : FuncData) (ps ks : List Str) (g : List Value → List Value → List Value) (gV : List V → List V → List V) : Prop where
  to : ∀ (s : Shared) (us ws : List Value), K.In s.heap → (g us ws).length = ps.length → BindsTo s fd ⟨us, ks.zip ws⟩ (ps.zip (g us ws))
  rel : ∀ {vs : List V} {us : List Value} {zs : List V} {ws : List Value}, Vals vs us → Vals zs ws → Vals (gV vs zs) (g us ws)
def tCallK (sp : Sp) (gV : List V → List V → List V) (E : XK) (t tk : TA) : TE := fun σ H Q => t σ H fun vs H1 => tk σ H1 fun zs H2 => sp (gV vs zs) H2 Q E
variable {g : List Value → List Value → List Value} {gV : List V → List V → List V}
theorem run_fnk {pins : List (Addr × Obj)} {σ : St} {H : Hp} {s : Shared} {Q : VK} {us ws : List Value} {vs zs : List V} (F : FnOk X.prog X.w X.K X.mg X.base CX k f fd ps sp) (hr : Room k X.A) (hb : KBinds X.K fd ps ks g gV) (hx : Passes CX X E)
    (I : Inv X pins σ H s) (r : Vals vs us) (rz : Vals zs ws) (h : sp (gV vs zs) H Q E) : wpAny (model X.prog X.w) X.A (call (.ref f) us (ks.zip ws)) (EP X pins σ Q) X.xe s := by
  have r2 := hb.rel r rz
  have hl : (g us ws).length = ps.length := by rw [← r2.length]; exact F.len _ _ _ _ h
  refine wpAny_call (codeAny_mono (F.run X.A X.stack s H ⟨us, ks.zip ws⟩ (g us ws) (gV vs zs) Q E hr I.env0 (hb.to s us ws I.kIn hl) r2 h) fun r s' hq => ?_)
  cases r with
  | error e => exact hx pins σ H s e s' I hq
  | ok fl =>
    cases fl with
    | ret u => exact I.after hq
    | next => exact False.elim hq
    | brk => exact False.elim hq
    | cont => exact False.elim hq
/-- f(e, .., k = v, ..) -/
theorem pe_callK (F : FnOk X.prog X.w X.K X.mg X.base CX k f fd ps sp) (hr : Room k X.A) (hg : Gl X x) (hm : X.mg x = some (.ref f)) (hk : PySem.W.keepIn X.K (.ref f) = true) (hb : KBinds X.K fd ps ks g gV) (hx : Passes CX X E)
    (ha : PA X (e :: es) t) (hkw : PK X kws tk) (hall : (backToKw pos (keywordEach kws X.env)).all (·.1.isSome) = true := by rfl) (hks : (backToKw pos (keywordEach kws X.env)).filterMap (·.1) = ks := by rfl)
    (hdb : (x == ("__debug__" : Str)) = false := by decide) (he : starEach (e :: es) X.env = (false, eval e X.env) :: starEach es X.env := by rfl)
    (hpl : ((backTo pos (starEach (e :: es) X.env)).any (·.1) || (backToKw pos (keywordEach kws X.env)).any (·.1.isNone)) = false := by rfl) :
    PE X (.Call (.Name x p) (e :: es) kws pos) (tCallK sp gV E t tk) := by
  intro pins s σ H Q I h
  refine wpAny_Call_Name_kw (ld_glob I hg hm ?_ hdb)
  refine PySem.W.callWith_KW (h₀ := X.base) I.ok.mod.kin hk hall (thn (ha pos pins s σ H _ I h) fun us s1 ⟨vs, H1, I1, r, q⟩ => ?_) hpl he
  refine thn (hkw pos pins s1 σ H1 _ I1 q) fun ws s2 ⟨zs, H2, I2, rz, q2⟩ => ⟨I2.kIn, ?_⟩
  rw [hks]
  exact run_fnk F hr hb hx I2 r rz q2
end

/-! ### a def's body keeps its promise -/
/-- names: the parameters first -/
structure FnScope (N P : List Str) (sc : Scope) : Prop where
  kind : sc.kind = .function
  co : sc.isCoroutine = false
  gen : sc.isGenerator = false
  nd : N.Nodup
  pre : N.take P.length = P
  par : ∀ x ∈ P, sc.names.lookup x = some .local ∨ sc.names.lookup x = some .cell
  nofree : ∀ y ∈ sc.names, y.2 ≠ .free

theorem bindL_out {kindOf : Str → Option NameKind} {x : Str} : ∀ {binds : List (Str × Value)} {m : Str → Option Value}, (∀ v, (x, v) ∉ binds) → bindL kindOf binds m x = m x
  | [], _, _ => rfl
  | (n, v) :: r, m, h => by
    unfold bindL
    rw [bindL_out fun w hw => h w (List.mem_cons_of_mem _ hw)]
    split
    · have : x ≠ n := by rintro rfl; exact h v List.mem_cons_self
      simp [this]
    · rfl
theorem bindC_out {kindOf : Str → Option NameKind} {x : Str} : ∀ {binds : List (Str × Value)} {m : Str → Option Value}, (∀ v, (x, v) ∉ binds) → bindC kindOf binds m x = m x
  | [], _, _ => rfl
  | (n, v) :: r, m, h => by
    unfold bindC
    rw [bindC_out fun w hw => h w (List.mem_cons_of_mem _ hw)]
    split
    · rfl
    · have : x ≠ n := by rintro rfl; exact h v List.mem_cons_self
      simp [this]
theorem bindL_get {kindOf : Str → Option NameKind} {x : Str} {v : Value} : ∀ {P : List Str} {vs : List Value} {i : Nat} {m : Str → Option Value}, P.Nodup → P[i]? = some x → vs[i]? = some v → kindOf x = some .local →
    bindL kindOf (P.zip vs) m x = some v
  | [], _, _, _, _, h, _, _ => by simp at h
  | _ :: _, [], _, _, _, _, h, _ => by simp at h
  | p :: P, w :: vs, 0, m, nd, h1, h2, hk => by
    simp at h1 h2; subst h1; subst h2
    show bindL kindOf ((p, w) :: P.zip vs) m p = _
    unfold bindL
    rw [bindL_out fun v hv => (List.nodup_cons.mp nd).1 (List.of_mem_zip hv).1, if_pos hk]
    simp
  | p :: P, w :: vs, i + 1, m, nd, h1, h2, hk => by
    show bindL kindOf ((p, w) :: P.zip vs) m x = _
    unfold bindL
    exact bindL_get (i := i) (List.nodup_cons.mp nd).2 (by simpa using h1) (by simpa using h2) hk
theorem bindC_get {kindOf : Str → Option NameKind} {x : Str} {v : Value} : ∀ {P : List Str} {vs : List Value} {i : Nat} {m : Str → Option Value}, P.Nodup → P[i]? = some x → vs[i]? = some v → kindOf x ≠ some .local →
    bindC kindOf (P.zip vs) m x = some v
  | [], _, _, _, _, h, _, _ => by simp at h
  | _ :: _, [], _, _, _, _, h, _ => by simp at h
  | p :: P, w :: vs, 0, m, nd, h1, h2, hk => by
    simp at h1 h2; subst h1; subst h2
    show bindC kindOf ((p, w) :: P.zip vs) m p = _
    unfold bindC
    rw [bindC_out fun v hv => (List.nodup_cons.mp nd).1 (List.of_mem_zip hv).1, if_neg hk]
    simp
  | p :: P, w :: vs, i + 1, m, nd, h1, h2, hk => by
    show bindC kindOf ((p, w) :: P.zip vs) m x = _
    unfold bindC
    exact bindC_get (i := i) (List.nodup_cons.mp nd).2 (by simpa using h1) (by simpa using h2) hk

/-- the names' values at the entry -/
def start (N : List Str) (vs : List V) : St := vs.map some ++ List.replicate (N.length - vs.length) none

/-- the context of a def's body, at its entry; an exception leaves the frame, then lies as CX says -/
def cxOf (CX : CXT) (P : Program) (w : World) (K : PySem.W.Frag) (mg : Str → Option Value) (base : Heap) (N : List Str) (qual : Str) (scope : Scope) (f : Addr) (cd : Value) (A : Around) (outer : List Env) (s : Shared) (H : Hp) (E : XK) : Cx where
  prog := P
  w := w
  K := K
  mg := mg
  base := base
  A := A.deeper (envOfC qual scope s.heap.objs.size f cd)
  N := N
  s₀ := s
  H₀ := H
  env := envOfC qual scope s.heap.objs.size f cd
  outer := outer
  stack := envOfC qual scope s.heap.objs.size f cd :: outer
  ex := []
  calm := true
  fn := fun _ => true
  pn := []
  xe := fun e s' => wpAny (model P w) (A.deeper (envOfC qual scope s.heap.objs.size f cd)) (leaving (envOfC qual scope s.heap.objs.size f cd) e) (fun _ s'' => CX outer H s E e s'') (fun e' s'' => CX outer H s E e' s'') s'

theorem cell_has {sc : Scope} {n : Nat} {x : Str} (h : sc.names.lookup x = some .cell) : ∃ c, (cellsFrom n sc.names []).lookup x = some c := by
  have q := PySem.W.cellsFrom_some sc.names n [] (.inl h)
  exact Option.isSome_iff_exists.mp q

theorem inv_start {CX : CXT} {P : Program} {w : World} {K : PySem.W.Frag} {mg : Str → Option Value} {base : Heap} {N ps : List Str} {qual : Str} {scope : Scope} {f : Addr} {cd : Value} {A : Around} {outer : List Env} {s s1 : Shared} {H : Hp} {E : XK} {us : List Value} {vs : List V}
    (S : FnScope N ps scope) (hd : A.handled = none) (e0 : Env0 P w K mg base A outer s H) (hl : vs.length = ps.length) (r : Vals vs us)
    (x : InCallC s s.heap.objs.size (bindL (envOfC qual scope s.heap.objs.size f cd).kindOf (ps.zip us) fun _ => none) (cellsFrom (s.heap.objs.size + 1) scope.names []) (bindC (envOfC qual scope s.heap.objs.size f cd).kindOf (ps.zip us) fun _ => none) s1) :
    Inv (cxOf CX P w K mg base N qual scope f cd A outer s H E) [] (start N vs) H s1 := by
  have hpl : ps.length ≤ N.length := by have := congrArg List.length S.pre; rw [List.length_take] at this; omega
  obtain ⟨h1, tk, rfl, hk⟩ := x.done
  have noA : ∀ b : Addr, b ∉ (cxOf CX P w K mg base N qual scope f cd A outer s H E).ex := fun b z => absurd (show b ∈ ([] : List Addr) from z) (by simp)
  refine ⟨⟨e0.mod, S.kind, rfl, rfl, Nat.le_refl _, fun y z c h1 h2 => ?_, fun y hy => ?_, fun y c _ h => ?_, fun _ => hd, Around.frames_deeper e0.frames, .inr ⟨rfl, rfl⟩, fun b z => absurd z (noA b), e0.bs, e0.bsz, fun b _ _ => noA b, fun b z => absurd z (noA b), e0.funs, e0.frf⟩,
    rfl, e0.bare, Un.kept hk, ⟨_, x.toInCall.ns, fun i y v h1 h2 h3 => ?_⟩, fun y c h => ⟨_, x.cell y c h⟩, e0.hok.fresh (Nat.le_refl _), fun y c h => ?_, fun p hp => absurd (show p ∈ ([] : List (Addr × Obj)) from hp) (by simp), e0.hok.kept hk, ?_⟩
  · exact name_of_addr x.apart (PySem.mem_of_lookup h1) (PySem.mem_of_lookup h2)
  · have hy : scope.names.lookup y = some .cell ∨ scope.names.lookup y = some .free := hy
    rcases hy with hy | hy
    · exact cell_has hy
    · exact absurd rfl (S.nofree _ (PySem.mem_of_lookup hy))
  · exact Nat.le_of_lt (x.above y c (PySem.mem_of_lookup h))
  · have hi : i < vs.length := by
      unfold start at h2
      by_cases hi : i < vs.length
      · exact hi
      · rw [List.getElem?_append_right (by simpa using hi)] at h2
        rw [List.getElem?_replicate] at h2
        split at h2 <;> cases h2
    have ha : vs[i]? = some v := by
      unfold start at h2
      rw [List.getElem?_append_left (by simpa using hi), List.getElem?_map] at h2
      cases e : vs[i]? with
      | none => rw [e] at h2; cases h2
      | some a => rw [e] at h2; cases h2; rfl
    obtain ⟨u, hu, rv⟩ := r.get ha
    have hp : ps[i]? = some y := by
      rw [← S.pre, List.getElem?_take_of_lt (by omega)]; exact h1
    have ndP : ps.Nodup := by rw [← S.pre]; exact S.nd.sublist (List.take_sublist _ _)
    refine ⟨u, rv, ?_⟩
    rcases S.par y (List.mem_of_getElem? hp) with k | k
    · exact .inl ⟨k, bindL_get ndP hp hu k⟩
    · obtain ⟨c, e⟩ := cell_has (n := s.heap.objs.size + 1) k
      refine .inr ⟨.inl k, c, e, ?_⟩
      have q := x.cell y c e
      rw [bindC_get ndP hp hu (by show scope.names.lookup y ≠ _; rw [k]; decide)] at q
      exact q
  · exact e0.hok.fresh (Nat.le_of_lt (x.above y c (PySem.mem_of_lookup h)))
  · unfold start
    show _ = N.length
    rw [List.length_append, List.length_map, List.length_replicate]
    omega

/-- THE RULE: a def (or a method) of the text, by its body. The body's reading t is chosen for each entry; it is run at the parameters' values -/
theorem fn_of {CX : CXT} {P : Program} {w : World} {K : PySem.W.Frag} {mg : Str → Option Value} {base : Heap} {k : Nat} {f : Addr} {name qual : Str} {params : Arguments} {body : List Stmt} {scope : Scope} {dV kV doc pm cdv ct oc : Value} {an od : Option Addr}
    {osl : Array (Option Value)} {N ps : List Str} {sp : Sp} (lk : K.lookup f = some ⟨oc, od, .func (PySem.W.fnOf name qual params body scope dV kV doc pm an cdv ct), osl⟩) (hcd : PySem.W.codeIn K cdv qual = true) (S : FnScope N ps scope)
    (len : ∀ vs H Q E, sp vs H Q E → vs.length = ps.length)
    (hbody : ∀ (A : Around) (outer : List Env) (s : Shared) (H : Hp) (vs : List V) (Q : VK) (E : XK), Room k (A.deeper (envOfC qual scope s.heap.objs.size f cdv)) → sp vs H Q E →
      ∃ t, PSs (cxOf CX P w K mg base N qual scope f cdv A outer s H E) body t ∧ t { nx := fun _ H' => Q .non H', rt := Q } (start N vs) H) :
    FnOk P w K mg base CX (k + 1) f (PySem.W.fnOf name qual params body scope dV kV doc pm an cdv ct) ps sp := by
  refine ⟨len, fun A outer s H args us vs Q E hr e0 hb r hsp => ?_⟩
  have hl := len _ _ _ _ hsp
  have KX : K.In s.heap := e0.mod.kin.keeps fun b o e => (e0.bs b o e).1
  have lim : s.heap.NoLimit := e0.mod.nolimit.keeps fun b o e => (e0.bs b o e).1
  have hkind : ∀ y ∈ ps.zip us, scope.names.lookup y.1 = some .local ∨ (scope.names.lookup y.1 = some .cell ∧ ((cellsFrom (s.heap.objs.size + 1) scope.names []).lookup y.1).isSome = true) := fun ⟨n, v⟩ hy => by
    rcases S.par n (List.of_mem_zip hy).1 with q | q
    · exact .inl q
    · exact .inr ⟨q, PySem.W.cellsFrom_some _ _ _ (.inl q)⟩
  refine codeAny_call_function hr.depth (KX _ _ lk) rfl S.co S.gen rfl (PySem.W.codeRec_of KX hcd) (hb _ _ _ _ ?_)
  refine wpAny_newFunctionEnv_cells S.kind hkind fun env he s1 x => ?_
  subst he
  refine ⟨lim.keeps x.toInCall.keep, codeAny_func ?_⟩
  obtain ⟨t, ht, hq⟩ := hbody A outer s H vs Q E (hr.deeper _) hsp
  have I : Inv (cxOf CX P w K mg base N qual scope f cdv A outer s H E) [] (start N vs) H s1 := inv_start S hr.hd e0 hl r x
  refine wpAny_mono (ht [] s1 (start N vs) H _ I hq) (fun fl s' hs => ?_) fun e s' hs => hs
  have fin : ∀ {σ' : St} {H' : Hp} {v : V} {u : Value}, Inv (cxOf CX P w K mg base N qual scope f cdv A outer s H E) [] σ' H' s' → RelV v u → Q v H' → CE outer P w H s Q u s' :=
    fun {σ' H' v u} J rv q => ⟨v, H', J.os, J.bare, J.base, J.hok, rv, q⟩
  cases fl with
  | ret u =>
    obtain ⟨v, σ', H', J, rv, q⟩ := hs
    exact fin J rv q
  | next =>
    obtain ⟨σ', H', J, q⟩ := hs
    exact fin (v := V.non) (u := Value.none) J rfl q
  | brk =>
    obtain ⟨_, _, _, q⟩ := hs
    exact False.elim q
  | cont =>
    obtain ⟨_, _, _, q⟩ := hs
    exact False.elim q
end L2

namespace L2
open PySem PySem.Spec PyProof.Rows
section
variable {X : Cx} {x : Str} {p pos : Pos} {e : Expr} {es : List Expr} {t : TA} {id T : String} {r : List V → Hp → VK → Prop}

def tCB (r : List V → Hp → VK → Prop) (t : TA) : TE := fun σ H Q => t σ H fun vs H1 => r vs H1 Q
/-- f(e, ..), f a built-in function -/
theorem pe_callB (hc : CallR X (.builtin id) r) (hg : Gl X x) (hm : X.mg x = none) (hv : bootBuiltins x = some (.builtin id)) (ha : PA X (e :: es) t) (hn : x ≠ "__name__" := by decide) (hdb : (x == ("__debug__" : Str)) = false := by decide)
    (he : starEach (e :: es) X.env = (false, eval e X.env) :: starEach es X.env := by rfl) (hpl : (backTo pos (starEach es X.env)).any (·.1) = false := by rfl) : PE X (.Call (.Name x p) (e :: es) [] pos) (tCB r t) := by
  intro pins s σ H Q I h
  refine wpAny_Call_Name_kw (ld_blt I hg hm hv ?_ hn hdb)
  exact PyProof.Rows.callWith_builtin1 (thn (ha pos pins s σ H _ I h) fun us s1 ⟨vs, H1, I1, r1, q1⟩ => hc pins s1 σ H1 vs us Q I1 r1 q1) he hpl
/-- T(e, ..), T a built-in type -/
theorem pe_callTy (hc : CallR X (.type T) r) (hg : Gl X x) (hm : X.mg x = none) (hv : bootBuiltins x = some (.type T)) (ha : PA X (e :: es) t) (hn : x ≠ "__name__" := by decide) (hdb : (x == ("__debug__" : Str)) = false := by decide)
    (he : starEach (e :: es) X.env = (false, eval e X.env) :: starEach es X.env := by rfl) (hpl : (backTo pos (starEach es X.env)).any (·.1) = false := by rfl) : PE X (.Call (.Name x p) (e :: es) [] pos) (tCB r t) := by
  intro pins s σ H Q I h
  refine wpAny_Call_Name_kw (ld_blt I hg hm hv ?_ hn hdb)
  exact PyProof.Rows.callWith_type1 (thn (ha pos pins s σ H _ I h) fun us s1 ⟨vs, H1, I1, r1, q1⟩ => hc pins s1 σ H1 vs us Q I1 r1 q1) he hpl
/-- T() -/
theorem pe_callTy0 (hc : CallR X (.type T) r) (hg : Gl X x) (hm : X.mg x = none) (hv : bootBuiltins x = some (.type T)) (hn : x ≠ "__name__" := by decide) (hdb : (x == ("__debug__" : Str)) = false := by decide) :
    PE X (.Call (.Name x p) [] [] pos) (tCB r tNil) := by
  intro pins s σ H Q I h
  refine wpAny_Call_Name_kw (ld_blt I hg hm hv ?_ hn hdb)
  exact PyProof.Rows.callWith_type0 (hc pins s σ H [] [] Q I .nil h)
end
end L2

namespace HT
open PySem PyProof.Rows

/-- t < u of tuples of ints -/
def lexLt : List Int → List Int → Bool
  | [], [] => false
  | [], _ :: _ => true
  | _ :: _, [] => false
  | x :: xs, y :: ys => if x = y then lexLt xs ys else decide (x < y)
theorem lexLt_cons (x y : Int) (xs ys : List Int) : lexLt (x :: xs) (y :: ys) = if x = y then lexLt xs ys else decide (x < y) := rfl
theorem lexLt_nil_nil : lexLt [] [] = false := rfl
theorem lexLt_nil_cons (y : Int) (ys : List Int) : lexLt [] (y :: ys) = true := rfl
theorem lexLt_cons_nil (x : Int) (xs : List Int) : lexLt (x :: xs) [] = false := rfl

theorem eqAt_int (A : Around) (s : Shared) (a : Int) (t : Tok) (c : Int) (u : Tok) : ∃ e, SeqAt.EqAt A s (.int a t) (.int c u) e ∧ (e = true ↔ a = c) :=
  ⟨(a == c), SeqAt.EqAt.int_int a t c u, by simp⟩
theorem rcLt_int (A : Around) (s : Shared) (a : Int) (t : Tok) (c : Int) (u : Tok) (prog : Program) (w : World) (E : Value → Shared → Prop) (Q : Value → Shared → Prop) (h : Q (.bool (decide (a < c))) s) :
    wpAny (model prog w) A (richCompare .Lt (.int a t) (.int c u)) Q E s :=
  (PyProof.Rows.lt_int h : wpAny (model prog w) A (compareOp .Lt (.int a t) (.int c u)) Q E s)

section
open PySem.SeqAt
open PySem.AutoSeq1 (wpAny_loadPart')
open PySem.MeetsSeq PySem.MeetsSeq2 PySem.MeetsSeq3

theorem tuple_lt_ints (l b : Addr) (items items2 : Array Value) (n n2 : Nat) (dd dd2 : Option Addr) (sl sl2 : Array (Option Value)) (ns ms : List Int) (hi : IntsAre items.toList ns) (hj : IntsAre items2.toList ms) :
    Meets (Builtin.«tuple.__lt__» ⟨[.ref l, .ref b], []⟩)
      (fun _ R s => s.heap.get? l = some { cls := .type "tuple", dict := dd, data := .seq items n, slots := sl } ∧ s.heap.get? b = some { cls := .type "tuple", dict := dd2, data := .seq items2 n2, slots := sl2 } ∧
        R (.ok (.ret (.bool (lexLt ns ms)))) s) :=
  .of_wp fun prog w A R s h => by
    obtain ⟨hp, g, d, tk, os⟩ := s; obtain ⟨hl, hb, h⟩ := h
    have f2 := AutoSeq1.sub_tuple_tuple
    have z1 : items.size = ns.length := by rw [← hi.length]; simp
    have z2 : items2.size = ms.length := by rw [← hj.length]; simp
    wp_walk using wpAny_loadPart' hl, wpAny_loadPart' hb, wpAny_forIn_list _ (fun rest b s' => b.1 = none ∧ s' = ⟨hp, g, d, tk, os⟩ ∧ ∃ (vs ws : List Value) (ns' ms' : List Int), rest = vs.zip ws ∧
      IntsAre vs ns' ∧ IntsAre ws ms' ∧ ns'.length + items2.size = ms'.length + items.size ∧ R (.ok (.ret (.bool (lexLt ns' ms')))) ⟨hp, g, d, tk, os⟩) _
    case turn =>
      rintro ⟨y, x⟩ rest b s' ⟨hb', rfl, vs, ws, ns', ms', hz, hvi, hwi, hlen, hR⟩
      cases hvi with
      | nil => rw [List.zip_nil_left] at hz; cases hz
      | cons a t hvi' =>
        cases hwi with
        | nil => rw [List.zip_nil_right] at hz; cases hz
        | cons c u hwi' =>
          rw [List.zip_cons_cons] at hz
          injection hz with hyx hrest
          injection hyx with hy hx
          subst hy hx
          rw [lexLt_cons] at hR
          simp only [List.length_cons] at hlen
          obtain ⟨e, he, hiff⟩ := eqAt_int A.in1 ⟨hp, g, d, tk, os⟩ a t c u
          refine wpAny_bind (he prog w _ _ ?_)
          cases e with
          | true =>
            rw [if_pos (hiff.mp rfl)] at hR
            wp_walk
            exact ⟨rfl, rfl, _, _, _, _, hrest, hvi', hwi', by omega, hR⟩
          | false =>
            rw [if_neg (fun q => absurd (hiff.mpr q) Bool.false_ne_true)] at hR
            have hri := rcLt_int A.in1 ⟨hp, g, d, tk, os⟩ a t c u prog w
            wp_walk using hri
            exact ⟨_, rfl, by simpa using hR⟩
    case fin =>
      rintro ⟨b1, b2⟩ s' ⟨hb', rfl, vs, ws, ns', ms', hz, hvi, hwi, hlen, hR⟩
      simp only at hb'
      subst hb'
      have hv : lexLt ns' ms' = decide (items.size < items2.size) := by
        cases hvi with
        | nil =>
          cases hwi with
          | nil =>
            simp only [List.length_nil] at hlen
            rw [lexLt_nil_nil]
            exact (decide_eq_false (by omega)).symm
          | cons c u hw =>
            simp only [List.length_nil, List.length_cons] at hlen
            rw [lexLt_nil_cons]
            exact (decide_eq_true (by omega)).symm
        | cons a t hv =>
          cases hwi with
          | nil =>
            simp only [List.length_nil, List.length_cons] at hlen
            rw [lexLt_cons_nil]
            exact (decide_eq_false (by omega)).symm
          | cons c u hw =>
            rw [List.zip_cons_cons] at hz
            cases hz
      rw [hv] at hR
      wp_walk
      exact ⟨_, rfl, by simpa [Builtin.Tuple.tupleCompareSizes] using hR⟩
    case h =>
      exact ⟨rfl, rfl, items.toList, items2.toList, ns, ms, rfl, hi, hj, by omega, h⟩
end

section
variable {prog : Program} {w : World} {A : Around} {E : Value → Shared → Prop} {s : Shared}

theorem lt_tupInts {l b : Addr} {items items2 : Array Value} {ns ms : List Int} {Q : Value → Shared → Prop} (hl : IsTup s.heap l items) (hb : IsTup s.heap b items2) (hi : IntsAre items.toList ns) (hj : IntsAre items2.toList ms)
    (hu : A.units < cLine) (h : Q (.bool (lexLt ns ms)) s) : wpAny (model prog w) A (compareOp .Lt (.ref l) (.ref b)) Q E s := by
  obtain ⟨⟨cls, dd, data, sl⟩, ho, hc, n, hd⟩ := id hl
  obtain ⟨⟨cls2, dd2, data2, sl2⟩, ho2, hc2, n2, hd2⟩ := id hb
  simp only at hc hd hc2 hd2
  subst hc hd hc2 hd2
  exact richCompare_meets_room (op := .Lt) ⟨_, ho, rfl⟩ ⟨_, ho2, rfl⟩ PySem.F.slot_tuple_lt PySem.F.entry_tuple_lt (PySem.F.args_tuple_lt_2 _ _) (tuple_lt_ints l b items items2 n n2 dd dd2 sl sl2 ns ms hi hj)
    ⟨ho, ho2, show Value.bool (lexLt ns ms) ≠ Value.notImplemented ∧ Q (.bool (lexLt ns ms)) s from ⟨(fun x => nomatch x), h⟩⟩ hu

/-- t + u, t not empty -/
theorem cat_tup {t b : Addr} {vs ws : List Value} {Q : Value → Shared → Prop} (ht : IsTup s.heap t vs.toArray) (hb : IsTup s.heap b ws.toArray) (hv : vs ≠ [])
    (h1 : ws = [] → Q (.ref t) s) (h2 : ws ≠ [] → Q (.ref s.heap.objs.size) { s with heap := s.heap.push { cls := .type "tuple", data := .seq (vs ++ ws).toArray } })
    (hsz : vs.length + ws.length ≤ sizeLine) : wpAny (model prog w) A (binaryOp .Add (.ref t) (.ref b)) Q E s := by
  obtain ⟨⟨cls, dd, data, sl⟩, ho, hc, n, hd⟩ := id ht
  obtain ⟨⟨cls2, dd2, data2, sl2⟩, ho2, hc2, n2, hd2⟩ := id hb
  simp only at hc hd hc2 hd2
  subst hc hd hc2 hd2
  have e : vs.toArray ++ ws.toArray = (vs ++ ws).toArray := by simp
  by_cases hw : ws = []
  · exact concat_meets ⟨_, ho, rfl⟩ ⟨_, ho2, rfl⟩ noFill_tuple_add seq_tuple_add PySem.F.slot_tuple_add PySem.F.entry_tuple_add (PySem.F.args_tuple_add_2 _ _)
      (tuple_addW1 t b vs.toArray ws.toArray n n2 dd dd2 sl sl2 (by simpa using hv) (by simp [hw])) ⟨ho, ho2, h1 hw⟩
  · refine concat_meets ⟨_, ho, rfl⟩ ⟨_, ho2, rfl⟩ noFill_tuple_add seq_tuple_add PySem.F.slot_tuple_add PySem.F.entry_tuple_add (PySem.F.args_tuple_add_2 _ _)
      (tuple_addW2 t b vs.toArray ws.toArray n n2 dd dd2 sl sl2 (by simpa using hv) (by simpa using hw) (by rw [List.size_toArray, List.size_toArray]; exact hsz)) ⟨ho, ho2, ?_⟩
    rw [e]
    exact h2 hw

/-! ### t[a:b], not the whole -/
/-- a slice's bound as a place among n (d where it is left out) -/
def sIx (n d : Nat) : Option Int → Nat
  | none => d
  | some v => if v < 0 then (v + (n : Int)).toNat else min v.toNat n
theorem sIx_none (n d : Nat) : sIx n d none = d := rfl
theorem sIx_nat (n d k : Nat) : sIx n d (some (k : Int)) = min k n := by
  show (if (k : Int) < 0 then ((k : Int) + (n : Int)).toNat else min (k : Int).toNat n) = min k n
  rw [if_neg (by omega), Int.toNat_natCast]
theorem sIx_le (n d : Nat) (hd : d ≤ n) (o : Option Int) : sIx n d o ≤ n := by
  cases o with
  | none => exact hd
  | some v =>
    show (if v < 0 then (v + (n : Int)).toNat else min v.toNat n) ≤ n
    by_cases hv : v < 0
    · rw [if_pos hv]; omega
    · rw [if_neg hv]; exact Nat.min_le_right _ _
theorem clip_eq (v : Int) (n d : Nat) : (if v < 0 then max (v + (n : Int)) 0 else min v (n : Int)) = ((sIx n d (some v) : Nat) : Int) := by
  show (if v < 0 then max (v + (n : Int)) 0 else min v (n : Int)) = (((if v < 0 then (v + (n : Int)).toNat else min v.toNat n) : Nat) : Int)
  by_cases hv : v < 0
  · simp only [if_pos hv]; omega
  · simp only [if_neg hv]; omega
theorem adjust_gen (lo hi : Option Int) (n : Nat) : Builtin.Slice.sliceAdjust lo hi 1 (n : Int) = (((sIx n 0 lo : Nat) : Int), ((sIx n n hi : Nat) : Int)) := by
  have h1 : ¬ ((1 : Int) < 0) := by omega
  unfold Builtin.Slice.sliceAdjust
  simp only [h1, if_false]
  refine Prod.ext ?_ ?_
  · cases lo with
    | none => rfl
    | some v => exact clip_eq v n 0
  · cases hi with
    | none => rfl
    | some v => exact clip_eq v n n
theorem places_gen (i j : Nat) : Builtin.Slice.slicePlaces (i : Int) (j : Int) 1 = j - i := by
  unfold Builtin.Slice.slicePlaces
  have h1 : (1 : Int) > 0 := by omega
  simp only [h1, if_true, Int.ediv_one]
  split <;> omega
theorem slicePart_ {v : Value} {o : Option Int} {Q : Option Int → Shared → Prop} (p : IsPart v o) (h : Q o s) : wpAny (model prog w) A (Builtin.Slice.slicePartIndex v) Q E s := by
  cases p with
  | none => exact slicePart_none h
  | int i t => exact slicePart_int h
theorem sliceApplied_gen {sl : Addr} {vl vu : Value} {lo hi : Option Int} {n : Nat} {Q : Int × Int × Nat → Shared → Prop} (hs : s.heap.IsSliceOf sl vl vu .none) (pl : IsPart vl lo) (pu : IsPart vu hi)
    (h : Q (((sIx n 0 lo : Nat) : Int), 1, sIx n n hi - sIx n 0 lo) s) : wpAny (model prog w) A (Builtin.Slice.sliceApplied (.ref sl) (pure (n : Int))) Q E s := by
  obtain ⟨os, hos, hcs, hds⟩ := id hs
  unfold Builtin.Slice.sliceApplied Builtin.Slice.sliceFields
  refine wpAny_bind (wpAny_bind (wpAny_field hos hds (x := vl) rfl (wpAny_bind (wpAny_field hos hds (x := vu) rfl (wpAny_bind (wpAny_field hos hds (x := .none) rfl (wpAny_pure ?_)))))))
  refine wpAny_bind (slicePart_none ?_)
  show wpAny _ _ (if ((1 : Int) == 0) = true then _ else _) _ _ s
  rw [if_neg (by decide)]
  refine wpAny_bind (slicePart_ pl (wpAny_bind (slicePart_ pu (wpAny_bind (wpAny_pure ?_)))))
  show wpAny _ _ (match Builtin.Slice.sliceAdjust lo hi 1 (n : Int) with | (lo, hi) => pure (lo, (1 : Int), Builtin.Slice.slicePlaces lo hi 1)) _ _ s
  rw [adjust_gen lo hi n]
  show wpAny _ _ (pure (((sIx n 0 lo : Nat) : Int), (1 : Int), Builtin.Slice.slicePlaces ((sIx n 0 lo : Nat) : Int) ((sIx n n hi : Nat) : Int) 1)) _ _ s
  rw [places_gen]
  exact wpAny_pure h
theorem pick_gen (xs : Array Value) (i k : Nat) : ((List.range k).filterMap fun (m : Nat) => xs[((i : Int) + (m : Int) * 1).toNat]?).toArray = ((xs.toList.drop i).take k).toArray := by
  have e : (fun (m : Nat) => xs[((i : Int) + (m : Int) * 1).toNat]?) = fun m => xs[i + m]? := by
    funext m
    have : ((i : Int) + (m : Int) * 1).toNat = i + m := by omega
    rw [this]
  rw [e]
  have := pick_run xs i k
  rw [List.filterMap_map] at this
  have e2 : ((fun x => xs[x]?) ∘ fun x => i + x) = fun m => xs[i + m]? := rfl
  rw [e2] at this
  rw [this]

theorem getItem_tuple_cut {t sl : Addr} {items : Array Value} {vl vu : Value} {lo hi : Option Int} {Q : Value → Shared → Prop} (ht : IsTup s.heap t items) (hs : s.heap.IsSliceOf sl vl vu .none) (pl : IsPart vl lo) (pu : IsPart vu hi)
    (hw : ¬ (sIx items.size 0 lo = 0 ∧ sIx items.size items.size hi = items.size))
    (h : Q (.ref s.heap.objs.size) { s with heap := s.heap.push { cls := .type "tuple", data := .seq ((items.toList.drop (sIx items.size 0 lo)).take (sIx items.size items.size hi - sIx items.size 0 lo)).toArray } })
    (hsz : items.size ≤ sizeLine) : wpAny (model prog w) A (getItem (.ref t) (.ref sl)) Q E s := by
  have htake : sizeOk (.seq ((items.toList.drop (sIx items.size 0 lo)).take (sIx items.size items.size hi - sIx items.size 0 lo)).toArray) := by
    show ((items.toList.drop (sIx items.size 0 lo)).take (sIx items.size items.size hi - sIx items.size 0 lo)).toArray.size ≤ sizeLine
    rw [List.size_toArray, List.length_take, List.length_drop, Array.length_toList]
    omega
  have hj : sIx items.size items.size hi ≤ items.size := sIx_le _ _ (Nat.le_refl _) hi
  obtain ⟨os, hos, hcs, hds⟩ := id hs
  have hTs : s.TypeIs (.ref sl) "slice" := ⟨os, hos, hcs⟩
  unfold getItem
  try with_reducible refine wpAny_holding ?_
  first | refine wpAny_bind (wpAny_pure ?_) | skip
  refine wpAny_bind (wpAny_sequenceKey ht.typeIs (by decide) ?_)
  refine wpAny_bind (wpAny_callSpecial?_slot (name := Str.ofString "__getitem__") ht.typeIs PyProof.Rows.slot_tuple_getitem
    (wpAny_call_entry PyProof.Rows.slot_tuple_getitem ht.typeIs entry_tuple_getitem ?_ (args_tuple_getitem _ _)))
  show wpAny _ _ (Builtin.Tuple.tupleItemsOf (.ref t) >>= _) _ _ s
  refine wpAny_bind (tupleItemsOf_ ht ?_)
  refine wpAny_bind (wpAny_typeOf hTs ?_)
  rw [if_pos (by decide)]
  refine wpAny_bind (sliceApplied_gen hs pl pu ?_)
  have hno : ¬ ((((sIx items.size 0 lo : Nat) : Int) == 0 && (1 : Int) == 1 && (sIx items.size items.size hi - sIx items.size 0 lo) == items.size) = true) := by
    intro q
    rw [Bool.and_eq_true, Bool.and_eq_true] at q
    have q1 : ((sIx items.size 0 lo : Nat) : Int) = 0 := eq_of_beq q.1.1
    have q2 : sIx items.size items.size hi - sIx items.size 0 lo = items.size := eq_of_beq q.2
    exact hw ⟨by omega, by omega⟩
  show wpAny _ _ (if (((sIx items.size 0 lo : Nat) : Int) == 0 && (1 : Int) == 1 && (sIx items.size items.size hi - sIx items.size 0 lo) == items.size) = true then _ else _) _ _ s
  rw [if_neg hno, pick_gen]
  first
    | exact wpAny_bind (m := Builtin.Tuple.tupleExact _) (wpAny_newObj_type (wpAny_pure ⟨_, rfl, wpAny_pure h⟩) htake)
    | exact wpAny_bind (m := Builtin.Tuple.tupleExact _) (wpAny_newObj_type (wpAny_bind (wpAny_pure (wpAny_pure ⟨_, rfl, wpAny_pure h⟩))) htake)
    | exact wpAny_bind (wpAny_bind (m := Builtin.Tuple.tupleExact _) (wpAny_newObj_type (wpAny_pure (wpAny_pure ⟨_, rfl, wpAny_pure h⟩)) htake))
    | exact wpAny_bind (wpAny_bind (m := Builtin.Tuple.tupleExact _) (wpAny_newObj_type (wpAny_pure ⟨_, rfl, wpAny_pure h⟩) htake))
end
end HT

namespace L2
open PySem PySem.Spec PyProof.Rows

/-! ### the parts of a slice -/
abbrev TO := St → Hp → (Option Int → Hp → Prop) → Prop
/-- a slice's part (left out, or an int) -/
def PO (X : Cx) (e : Option Expr) (t : TO) : Prop :=
  ∀ (pins : List (Addr × Obj)) (s : Shared) (σ : St) (H : Hp) (Q : Option Int → Hp → Prop), Inv X pins σ H s → t σ H Q →
    wpAny (model X.prog X.w) X.A (evalPart e X.env) (fun u s' => ∃ o H', Inv X pins σ H' s' ∧ IsPart u o ∧ Q o H') X.xe s
def tNoPart : TO := fun _ H Q => Q none H
def tPart (t : TE) : TO := fun σ H Q => t σ H fun x H1 => ∃ i, x = .int i ∧ Q (some i) H1

theorem intsAre_of {ns : List Int} : ∀ {us : List Value}, Vals (ns.map V.int) us → IntsAre us ns := by
  induction ns with
  | nil => intro us r; rw [List.map_nil] at r; cases r; exact .nil
  | cons n ns ih =>
    intro us r
    rw [List.map_cons] at r
    cases r with
    | cons r1 r2 =>
      obtain ⟨t, e⟩ := r1
      subst e
      exact .cons n t (ih r2)

section
variable {X : Cx} {e : Expr} {te : TE} {lo hi : Option Expr} {tl th : TO} {pos p2 : Pos}

theorem po_none : PO X none tNoPart := by
  intro pins s σ H Q I h
  rw [evalPart_none]
  exact wpAny_pure ⟨none, H, I, .none, h⟩
theorem po_some (h : PE X e te) : PO X (some e) (tPart te) := by
  intro pins s σ H Q I hw
  rw [evalPart_some]
  refine thn (h pins s σ H _ I hw) fun u s1 ⟨x, H1, I1, r1, q1⟩ => ?_
  obtain ⟨i, rfl, q⟩ := q1
  obtain ⟨t, rfl⟩ := r1
  exact ⟨some i, H1, I1, .int i t, q⟩

/-- what a slice of a value is, by values: the slice object stands at sl -/
def SlR (X : Cx) (r : V → Option Int → Option Int → Hp → VK → Prop) : Prop :=
  ∀ (pins : List (Addr × Obj)) (s : Shared) (σ : St) (H : Hp) (x : V) (v vl vu : Value) (lo hi : Option Int) (sl : Addr) (Q : VK), Inv X pins σ H s → RelV x v → s.heap.IsSliceOf sl vl vu .none → IsPart vl lo → IsPart vu hi → r x lo hi H Q →
    ∃ T id, typeLookup (.type T) "__getitem__" = pure (some (.builtin id)) ∧ s.TypeIs v T ∧ wpAny (model X.prog X.w) X.A (getItem v (.ref sl)) (EP X pins σ Q) X.xe s
theorem SlR.or {r r' : V → Option Int → Option Int → Hp → VK → Prop} (h : SlR X r) (h' : SlR X r') : SlR X (fun x lo hi H Q => r x lo hi H Q ∨ r' x lo hi H Q) := by
  intro pins s σ H x v vl vu lo hi sl Q I rx hs pl pu q
  rcases q with q | q
  · exact h pins s σ H x v vl vu lo hi sl Q I rx hs pl pu q
  · exact h' pins s σ H x v vl vu lo hi sl Q I rx hs pl pu q
def tSl (r : V → Option Int → Option Int → Hp → VK → Prop) (te : TE) (tl th : TO) : TE := fun σ H Q => te σ H fun x H1 => tl σ H1 fun l H2 => th σ H2 fun u H3 => r x l u H3 Q
/-- a[lo:hi], any a -/
theorem pe_slice {r : V → Option Int → Option Int → Hp → VK → Prop} (hr : SlR X r) (he : PE X e te) (hl : PO X lo tl) (hu : PO X hi th) : PE X (.Subscript e (.Slice lo hi none p2) pos) (tSl r te tl th) := by
  intro pins s σ H Q I h
  refine Subscript_ (thn (he pins s σ H _ I h) fun v s1 ⟨x, H1, I1, r1, q1⟩ => ?_)
  refine wpAny_Slice (thn (hl pins s1 σ H1 _ I1 q1) fun vl s2 ⟨l, H2, I2, pl, q2⟩ => thn (hu pins s2 σ H2 _ I2 q2) fun vu s3 ⟨u, H3, I3, pu, q3⟩ => ?_)
  rw [evalPart_none]
  refine wpAny_pure ?_
  have I4 : Inv X pins σ H3 { s3 with heap := s3.heap.push { cls := .type "slice", data := .fields #[vl, vu, .none] } } := I3.kept (t' := s3.toks) fun b ob q => Heap.get?_push_of_some _ q
  obtain ⟨T, id, hT, ht, hg⟩ := hr pins { s3 with heap := s3.heap.push { cls := .type "slice", data := .fields #[vl, vu, .none] } } σ H3 x v vl vu l u s3.heap.objs.size Q I4 r1 (Heap.IsSliceOf.new ..) pl pu q3
  show wpAny (model X.prog X.w) X.A (subscriptTail e (.Slice lo hi none p2) v (.ref s3.heap.objs.size)) (EP X pins σ Q) X.xe { s3 with heap := s3.heap.push { cls := .type "slice", data := .fields #[vl, vu, .none] } }
  exact tail_any (ops := [.ref s3.heap.objs.size, v]) ht hT hg (by with_unfolding_all rfl)

/-- the items of xs[lo:hi] -/
def cutV (xs : List V) (lo hi : Option Int) : List V := (xs.drop (HT.sIx xs.length 0 lo)).take (HT.sIx xs.length xs.length hi - HT.sIx xs.length 0 lo)
theorem cutV_length (xs : List V) (lo hi : Option Int) : (cutV xs lo hi).length ≤ xs.length := by
  unfold cutV
  rw [List.length_take, List.length_drop]
  omega
/-- t[lo:hi], not the whole of it (the whole would be t itself) -/
def rSlT (K : PySem.W.Frag) : V → Option Int → Option Int → Hp → VK → Prop := fun x lo hi H Q => ∃ a xs, x = .ref a ∧ SqT K H a xs ∧
  ¬ (HT.sIx xs.length 0 lo = 0 ∧ HT.sIx xs.length xs.length hi = xs.length) ∧ ∀ p, H p = none → Q (.ref p) (upd H p (.tup (cutV xs lo hi)))
theorem sl_tup : SlR X (rSlT X.K) := by
  intro pins s σ H x v vl vu lo hi sl Q I rx hs pl pu h
  obtain ⟨a, xs, rfl, hx, hw, q⟩ := h
  cases rx
  obtain ⟨its, r, ht, hz⟩ := I.tuple hx
  have hlen : its.toArray.size = xs.length := by rw [List.size_toArray]; exact r.length.symm
  refine ⟨"tuple", _, PyProof.Rows.slot_tuple_getitem.lookup, ht.typeIs, ?_⟩
  refine HT.getItem_tuple_cut ht hs pl pu (by rw [hlen]; exact hw) ?_ (by rw [hlen]; exact hz)
  rw [hlen]
  refine ⟨.ref s.heap.objs.size, _, I.laid (t' := s.toks) (o := .tup (cutV xs lo hi)) (fun b ob q => Heap.get?_push_of_some _ q) (Nat.le_refl _) ?_, rfl, q _ (I.hok.fresh (Nat.le_refl _))⟩
  exact ⟨Nat.le_trans (cutV_length xs lo hi) hz, _, (r.drop (HT.sIx xs.length 0 lo)).take (HT.sIx xs.length xs.length hi - HT.sIx xs.length 0 lo), IsTup.new _ _⟩

/-! ### t < u, t + u -/
def rLtT (K : PySem.W.Frag) : R2 := fun x y H Q => ∃ a b ns ms, x = .ref a ∧ y = .ref b ∧ SqT K H a (ns.map V.int) ∧ SqT K H b (ms.map V.int) ∧ Q (.bl (HT.lexLt ns ms)) H
theorem op_ltT (hu : X.A.units < cLine) : OpR X (compareOp .Lt) (rLtT X.K) := by
  intro pins s σ H x y v u Q I rx ry h
  obtain ⟨a, b, ns, ms, rfl, rfl, ha, hb, q⟩ := h
  cases rx
  cases ry
  obtain ⟨its, r1, p1, _⟩ := I.tuple ha
  obtain ⟨its2, r2, p2, _⟩ := I.tuple hb
  have i1 : IntsAre its.toArray.toList ns := intsAre_of r1
  have i2 : IntsAre its2.toArray.toList ms := intsAre_of r2
  exact HT.lt_tupInts p1 p2 i1 i2 hu ⟨.bl (HT.lexLt ns ms), H, I, rfl, q⟩
/-- t + u, t not empty: u empty gives t itself -/
def rCatT (K : PySem.W.Frag) : R2 := fun x y H Q => ∃ a b xs ys, x = .ref a ∧ y = .ref b ∧ SqT K H a xs ∧ SqT K H b ys ∧ xs ≠ [] ∧ xs.length + ys.length ≤ sizeLine ∧
  (ys = [] → Q (.ref a) H) ∧ (ys ≠ [] → ∀ p, H p = none → Q (.ref p) (upd H p (.tup (xs ++ ys))))
theorem Vals.nil_iff {xs : List V} {us : List Value} (r : Vals xs us) : us = [] ↔ xs = [] := by
  cases r with
  | nil => simp
  | cons _ _ => simp
theorem op_catT : OpR X (binaryOp .Add) (rCatT X.K) := by
  intro pins s σ H x y v u Q I rx ry h
  obtain ⟨a, b, xs, ys, rfl, rfl, ha, hb, hx, hz, q1, q2⟩ := h
  cases rx
  cases ry
  obtain ⟨its, r1, p1, _⟩ := I.tuple ha
  obtain ⟨its2, r2, p2, _⟩ := I.tuple hb
  refine HT.cat_tup p1 p2 (fun z => hx (r1.nil_iff.mp z)) (fun z => ⟨.ref a, H, I, rfl, q1 (r2.nil_iff.mp z)⟩) (fun z => ?_) (by rw [← r1.length, ← r2.length]; exact hz)
  refine ⟨.ref s.heap.objs.size, _, I.laid (t' := s.toks) (o := .tup (xs ++ ys)) (fun b ob q => Heap.get?_push_of_some _ q) (Nat.le_refl _) ?_, rfl, q2 (fun w => z (r2.nil_iff.mpr w)) _ (I.hok.fresh (Nat.le_refl _))⟩
  exact ⟨by rw [List.length_append]; exact hz, _, r1.append r2, IsTup.new _ _⟩
/-- tuple(t) -/
theorem call_tupleT : CallR X (.type "tuple") (fun xs H Q => ∃ a ys, xs = [.ref a] ∧ SqT X.K H a ys ∧ Q (.ref a) H) := by
  intro pins s σ H xs us Q I r h
  obtain ⟨a, ys, rfl, ha, q⟩ := h
  obtain ⟨u, rfl, ru⟩ := vals1 r
  cases ru
  obtain ⟨its, _, p1, _⟩ := I.tuple ha
  exact call_tuple_same (items := its.toArray) p1 ⟨.ref a, H, I, rfl, q⟩
end
end L2

namespace L2
open PySem PySem.Spec PyProof.Rows

/-! ### places -/
/-- the place that an index of any sign means -/
def ixN (n : Nat) (i : Int) : Option Nat := if 0 ≤ i then (if i < n then some i.toNat else none) else if -(n : Int) ≤ i then some (i + n).toNat else none
def atI {α : Type} (xs : List α) (i : Int) : Option α := (ixN xs.length i).bind fun j => xs[j]?
theorem ixN_seq {n : Nat} {i : Int} {j : Nat} (h : ixN n i = some j) : seqIndex? i n = some j ∧ j < n ∧ -(n : Int) ≤ i ∧ i < n := by
  unfold ixN at h
  by_cases h0 : 0 ≤ i
  · rw [if_pos h0] at h
    by_cases h1 : i < n
    · rw [if_pos h1] at h
      have e : i.toNat = j := Option.some.inj h
      exact ⟨by rw [seqIndex_of h0 h1, e], by omega, by omega, h1⟩
    · rw [if_neg h1] at h; cases h
  · rw [if_neg h0] at h
    by_cases h1 : -(n : Int) ≤ i
    · rw [if_pos h1] at h
      have e : (i + n).toNat = j := Option.some.inj h
      exact ⟨by rw [seqIndex_neg (by omega) h1, e], by omega, h1, by omega⟩
    · rw [if_neg h1] at h; cases h
theorem atI_get {α : Type} {xs : List α} {i : Int} {v : α} (h : atI xs i = some v) : ∃ j, seqIndex? i xs.length = some j ∧ xs[j]? = some v ∧ j < xs.length ∧ -(xs.length : Int) ≤ i ∧ i < xs.length := by
  unfold atI at h
  cases e : ixN xs.length i with
  | none => rw [e] at h; cases h
  | some j =>
    rw [e] at h
    obtain ⟨h1, h2, h3, h4⟩ := ixN_seq e
    exact ⟨j, h1, h, h2, h3, h4⟩
theorem atI_nat {α : Type} {xs : List α} {j : Nat} {v : α} (h : xs[j]? = some v) : atI xs (j : Int) = some v := by
  have hj : j < xs.length := (List.getElem?_eq_some_iff.mp h).1
  have e : ixN xs.length (j : Int) = some j := by
    unfold ixN
    rw [if_pos (by omega), if_pos (by omega)]; simp
  unfold atI; rw [e]; exact h
theorem atI_last {α : Type} (xs : List α) (v : α) : atI (xs ++ [v]) (-1) = some v := by
  have hl : (xs ++ [v]).length = xs.length + 1 := by simp
  have e : ixN (xs ++ [v]).length (-1) = some xs.length := by
    unfold ixN
    rw [hl, if_neg (by decide), if_pos (by omega)]
    congr 1
    omega
  unfold atI
  rw [e]
  show (xs ++ [v])[xs.length]? = some v
  simp

/-! ### what may be subscripted -/
/-- what stands as an index of a plain subscript -/
def PlainIx (b : Expr) : Prop := ∀ o i, subscripted b false o i = operate [o, i] (getItem o i)
/-- a subscript by values -/
def IxR (X : Cx) (r : R2) : Prop :=
  ∀ (value slice : Expr) (pins : List (Addr × Obj)) (s : Shared) (σ : St) (H : Hp) (x y : V) (v u : Value) (Q : VK), Inv X pins σ H s → RelV x v → RelV y u → r x y H Q →
    subscripted slice false v u = operate [v, u] (getItem v u) → wpAny (model X.prog X.w) X.A (subscriptTail value slice v u) (EP X pins σ Q) X.xe s
/-- a call of a builtin's method by values: the receiver, the arguments -/
def MtR (X : Cx) (id : String) (r : V → List V → Hp → VK → Prop) : Prop :=
  ∀ (pins : List (Addr × Obj)) (s : Shared) (σ : St) (H : Hp) (x : V) (xs : List V) (v : Value) (us : List Value) (Q : VK), Inv X pins σ H s → RelV x v → Vals xs us → r x xs H Q →
    wpAny (model X.prog X.w) X.A (call (.builtin id) (v :: us)) (EP X pins σ Q) X.xe s
section
variable {X : Cx} {a b : Expr} {ta tb : TE} {pos : Pos}
theorem IxR.or {r r' : R2} (h : IxR X r) (h' : IxR X r') : IxR X (fun x y H Q => r x y H Q ∨ r' x y H Q) := by
  intro value slice pins s σ H x y v u Q I rx ry q hs
  rcases q with q | q
  · exact h value slice pins s σ H x y v u Q I rx ry q hs
  · exact h' value slice pins s σ H x y v u Q I rx ry q hs
theorem MtR.or {id : String} {r r' : V → List V → Hp → VK → Prop} (h : MtR X id r) (h' : MtR X id r') : MtR X id (fun x xs H Q => r x xs H Q ∨ r' x xs H Q) := by
  intro pins s σ H x xs v us Q I rx rs q
  rcases q with q | q
  · exact h pins s σ H x xs v us Q I rx rs q
  · exact h' pins s σ H x xs v us Q I rx rs q
/-- a[b] -/
theorem pe_ix {r : R2} (hr : IxR X r) (ha : PE X a ta) (hb : PE X b tb) (hs : PlainIx b) : PE X (.Subscript a b pos) (tOp r ta tb) := by
  intro pins s σ H Q I h
  exact Subscript_ (binT ha hb I h fun v u s2 x y H2 I2 rx ry q => hr a b pins s2 σ H2 x y v u Q I2 rx ry q (hs _ _))

def rIxL (K : PySem.W.Frag) : R2 := fun x y H Q => ∃ p xs i v, x = .ref p ∧ y = .int i ∧ SqL K H p xs ∧ atI xs i = some v ∧ Q v H
def rIxT (K : PySem.W.Frag) : R2 := fun x y H Q => ∃ p xs i v, x = .ref p ∧ y = .int i ∧ SqT K H p xs ∧ atI xs i = some v ∧ Q v H
def rIxS : R2 := fun x y H Q => ∃ z i c, x = .str z ∧ y = .int i ∧ z.length ≤ sizeLine ∧ atI z.cps.toList i = some c ∧ Q (.str ⟨#[c]⟩) H
theorem ix_list : IxR X (rIxL X.K) := by
  intro value slice pins s σ H x y v u Q I rx ry h hs
  obtain ⟨p, xs, i, z, rfl, rfl, hq, he, q⟩ := h
  cases rx
  obtain ⟨t, rfl⟩ := ry
  obtain ⟨its, r, pl, hz⟩ := I.list hq
  obtain ⟨j, h1, h2, h3, h4, h5⟩ := atI_get he
  obtain ⟨w, ew, rw'⟩ := r.get h2
  have hl := r.length
  have hn := line63
  have fin : EP X pins σ Q w s := ⟨z, H, I, rw', q⟩
  by_cases h0 : 0 ≤ i
  · have hj : i.toNat = j := by
      rw [seqIndex_of h0 h5] at h1
      exact Option.some.inj h1
    exact item_listR pl.isList h0 (by omega) (by rw [hj]; simpa using ew) fin hs
  · have hj : (i + (its.toArray.size : Int)).toNat = j := by
      rw [seqIndex_neg (by omega) h4] at h1
      rw [List.size_toArray, ← hl]
      exact Option.some.inj h1
    exact subscriptTail_builtinR (x := w) pl.isList.typeIs slot_list_getitem.lookup
      (wpAny_getItem_list_neg (Q := fun r s' => r = w ∧ EP X pins σ Q r s') pl.isList (by omega) (by rw [List.size_toArray] <;> omega) (by omega) (by rw [hj]; simpa using ew) ⟨rfl, fin⟩) hs
theorem ix_tup : IxR X (rIxT X.K) := by
  intro value slice pins s σ H x y v u Q I rx ry h hs
  obtain ⟨p, xs, i, z, rfl, rfl, hq, he, q⟩ := h
  cases rx
  obtain ⟨t, rfl⟩ := ry
  obtain ⟨its, r, pl, hz⟩ := I.tuple hq
  obtain ⟨j, h1, h2, h3, h4, h5⟩ := atI_get he
  obtain ⟨w, ew, rw'⟩ := r.get h2
  have hl := r.length
  have hn := line63
  have fin : EP X pins σ Q w s := ⟨z, H, I, rw', q⟩
  exact subscriptTail_builtinR (x := w) pl.typeIs slot_tuple_getitem.lookup
    (getItem_tuple (j := j) (Q := fun r s' => r = w ∧ EP X pins σ Q r s') pl (by omega) (by omega) (by rw [List.size_toArray, ← hl]; exact h1) (by simpa using ew) ⟨rfl, fin⟩) hs
theorem ix_str : IxR X rIxS := by
  intro value slice pins s σ H x y v u Q I rx ry h hs
  obtain ⟨z, i, c, rfl, rfl, hz, he, q⟩ := h
  obtain ⟨t, rfl⟩ := rx
  obtain ⟨t', rfl⟩ := ry
  obtain ⟨j, h1, h2, h3, h4, h5⟩ := atI_get he
  have hl : z.cps.toList.length = z.length := by simp [Str.length]
  rw [hl] at h1 h4 h5
  have hn := line63
  exact tail_any (typeIs_str s z t) slot_str_getitem.lookup (getItem_str (c := c) (by
    have e1 : decide (i < -(2 ^ 63 : Int)) = false := decide_eq_false (by omega)
    have e2 : decide (i ≥ 2 ^ 63) = false := decide_eq_false (by omega)
    rw [e1, e2, Bool.or_false]) (by rw [h1]; simpa using h2) ⟨.str ⟨#[c]⟩, H, I.tok _, ⟨_, rfl⟩, q⟩) hs
/-- list, tuple or str -/
def rIx (K : PySem.W.Frag) : R2 := fun x y H Q => rIxL K x y H Q ∨ rIxT K x y H Q ∨ rIxS x y H Q
theorem ix_seq : IxR X (rIx X.K) := ix_list.or (ix_tup.or ix_str)

/-! ### xs[i] = v, any sign -/
/-- the list's object behind a store -/
theorem mapSeq_set (its : List Value) (n j : Nat) (u : Value) : Obj.mapSeq (·.setIfInBounds j u) { cls := .type "list", data := .seq its.toArray n } = { cls := .type "list", data := .seq (its.set j u).toArray n } := by
  simp [Obj.mapSeq]
theorem Inv.lst {pins : List (Addr × Obj)} {σ : St} {H : Hp} {s : Shared} {p : Addr} {xs : List V} (I : Inv X pins σ H s) (h : H p = some (.lst xs)) :
    ∃ (its : List Value) (n : Nat), Vals xs its ∧ s.heap.get? p = some { cls := .type "list", data := .seq its.toArray n } ∧ xs.length ≤ sizeLine := by
  obtain ⟨z, its, n, r, e⟩ := I.hok p _ h
  exact ⟨its, n, r, e, z⟩
/-- the list at p is written by an update of its object -/
theorem Inv.lstUpd {pins : List (Addr × Obj)} {σ : St} {H : Hp} {s : Shared} {p : Addr} {xs ys : List V} {its its' : List Value} {n n' : Nat} {f : Obj → Obj} (I : Inv X pins σ H s) (h : H p = some (.lst xs))
    (ho : s.heap.get? p = some { cls := .type "list", data := .seq its.toArray n }) (hf : f { cls := .type "list", data := .seq its.toArray n } = { cls := .type "list", data := .seq its'.toArray n' }) (r : Vals ys its') (hz : ys.length ≤ sizeLine) (t : Nat) :
    Inv X pins σ (upd H p (.lst ys)) { s with heap := s.heap.update p f, toks := t } := by
  have e : (s.heap.update p f).get? p = some { cls := .type "list", data := .seq its'.toArray n' } := by
    rw [Heap.get?_update_self f ho (by rw [hf] <;> rfl), hf]
  refine I.write (x := p) (e := p) (by rw [h]; trivial) (.inl rfl) (fun b u hb q => (Heap.get?_update_other _ _ (Ne.symm hb)).trans q) ⟨_, e⟩ ?_
  exact ⟨hz, its', n', r, e⟩
def rSetL : V → V → V → Hp → (Hp → Prop) → Prop := fun o i v H Q => ∃ p xs k j, o = .ref p ∧ i = .int k ∧ H p = some (.lst xs) ∧ ixN xs.length k = some j ∧ Q (upd H p (.lst (xs.set j v)))
theorem set_list : PSet X rSetL := by
  intro pins s σ H o i v ov iv u Q I ro ri rv h
  obtain ⟨p, xs, k, j, rfl, rfl, hp, hj, q⟩ := h
  cases ro
  obtain ⟨t, rfl⟩ := ri
  obtain ⟨its, n, r, ho, hz⟩ := I.lst hp
  obtain ⟨h1, h2, h3, h4⟩ := ixN_seq hj
  have hl := r.length
  have hn := line63
  have I' : Inv X pins σ (upd H p (.lst (xs.set j v))) { s with heap := s.heap.update p (Obj.mapSeq (·.setIfInBounds j u)) } :=
    I.lstUpd hp ho (mapSeq_set its n j u) (r.set rv j) (by rw [List.length_set]; exact hz) s.toks
  by_cases h0 : 0 ≤ k
  · have hk : k.toNat = j := by
      rw [seqIndex_of h0 h4] at h1
      exact Option.some.inj h1
    exact PySem.W.ki_setAt ho h0 (by omega) (by rw [List.size_toArray, ← hl]; exact h4) (by rw [hk]; exact ⟨_, I', q⟩)
  · have hk : (k + (its.toArray.size : Int)).toNat = j := by
      rw [seqIndex_neg (by omega) h3] at h1
      rw [List.size_toArray, ← hl]
      exact Option.some.inj h1
    exact PySem.W.ki_setBack ho (by omega) (by rw [List.size_toArray, ← hl]; exact h3) (by omega) (by rw [hk]; exact ⟨_, I', q⟩)

/-! ### slices -/
theorem slice_bounds (lo hi : Option Int) (n : Nat) : (sliceBounds lo hi none n).1 = ((HT.sIx n 0 lo : Nat) : Int) ∧ (sliceBounds lo hi none n).2.1 = ((HT.sIx n n hi : Nat) : Int) ∧ (sliceBounds lo hi none n).2.2 = 1 := by
  refine ⟨?_, ?_, rfl⟩
  · cases lo with
    | none => simp [sliceBounds, HT.sIx]
    | some i =>
      simp only [sliceBounds, HT.sIx, Option.getD_none, show (1 : Int) > 0 by decide, if_true]
      by_cases h : i < 0
      · simp only [h, if_true] <;> omega
      · simp only [h, if_false] <;> omega
  · cases hi with
    | none => simp [sliceBounds, HT.sIx]
    | some i =>
      simp only [sliceBounds, HT.sIx, Option.getD_none, show (1 : Int) > 0 by decide, if_true]
      by_cases h : i < 0
      · simp only [h, if_true] <;> omega
      · simp only [h, if_false] <;> omega
theorem slicePick_cut (its : List Value) (lo hi : Option Int) : slicePick its.toArray lo hi none = ((its.drop (HT.sIx its.length 0 lo)).take (HT.sIx its.length its.length hi - HT.sIx its.length 0 lo)).toArray := by
  obtain ⟨h1, h2, h3⟩ := slice_bounds lo hi its.toArray.size
  unfold slicePick
  rw [h1, h2, h3]
  simp only [sliceRange_one, pick_run, List.size_toArray] <;> rfl
/-- xs[lo:hi] of a list: a new list -/
def rSlL (K : PySem.W.Frag) : V → Option Int → Option Int → Hp → VK → Prop := fun x lo hi H Q => ∃ a xs, x = .ref a ∧ SqL K H a xs ∧ ∀ p, H p = none → Q (.ref p) (upd H p (.lst (cutV xs lo hi)))
theorem sl_list : SlR X (rSlL X.K) := by
  intro pins s σ H x v vl vu lo hi sl Q I rx hs pl pu h
  obtain ⟨a, xs, rfl, hx, q⟩ := h
  cases rx
  obtain ⟨its, r, ht, hz⟩ := I.list hx
  have hlen := r.length
  refine ⟨"list", _, slot_list_getitem.lookup, ht.isList.typeIs, ?_⟩
  refine wpAny_getItem_list_slice ht.isList hs pl pu .none (by simp) ?_ (by rw [List.size_toArray] <;> omega)
  rw [slicePick_cut, ← hlen]
  refine ⟨.ref s.heap.objs.size, _, I.laid (t' := s.toks) (o := .lst (cutV xs lo hi)) (fun b ob q => Heap.get?_push_of_some _ q) (Nat.le_refl _) ?_, rfl, q _ (I.hok.fresh (Nat.le_refl _))⟩
  exact ⟨Nat.le_trans (cutV_length xs lo hi) hz, _, 0, (r.drop (HT.sIx xs.length 0 lo)).take (HT.sIx xs.length xs.length hi - HT.sIx xs.length 0 lo), Heap.get?_push_size _ rfl⟩

/-! ### in, not in: flat items -/
def flatV : V → Bool
  | .non => true
  | .bl _ => true
  | .int _ => true
  | .str _ => true
  | _ => false
/-- == of flat values -/
def eqV : V → V → Bool
  | .non, .non => true
  | .bl a, .bl b => a == b
  | .bl a, .int b => (if a then 1 else 0) == b
  | .int a, .bl b => a == (if b then 1 else 0)
  | .int a, .int b => a == b
  | .str a, .str b => a == b
  | _, _ => false
theorem eqAt_V {A : Around} {s : Shared} {y x : V} {u v : Value} (ry : RelV y u) (rx : RelV x v) (fy : flatV y = true) (fx : flatV x = true) : SeqAt.EqAt A s u v (eqV y x) := by
  cases y with
  | non =>
    cases ry
    cases x with
    | non => cases rx; exact SeqAt.EqAt.same _
    | bl b => cases rx; exact SeqAt.EqAt.none_bool b
    | int b => obtain ⟨t, rfl⟩ := rx; exact SeqAt.EqAt.none_int b t
    | str b => obtain ⟨t, rfl⟩ := rx; exact SeqAt.EqAt.none_str b t
    | _ => exact absurd (show false = true from fx) Bool.false_ne_true
  | bl a =>
    cases ry
    cases x with
    | non => cases rx; exact SeqAt.EqAt.bool_none a
    | bl b => cases rx; exact SeqAt.EqAt.bool_bool a b
    | int b => obtain ⟨t, rfl⟩ := rx; exact SeqAt.EqAt.bool_int a b t
    | str b => obtain ⟨t, rfl⟩ := rx; exact SeqAt.EqAt.bool_str a b t
    | _ => exact absurd (show false = true from fx) Bool.false_ne_true
  | int a =>
    obtain ⟨t', rfl⟩ := ry
    cases x with
    | non => cases rx; exact SeqAt.EqAt.int_none a t'
    | bl b => cases rx; exact SeqAt.EqAt.int_bool a t' b
    | int b => obtain ⟨t, rfl⟩ := rx; exact SeqAt.EqAt.int_int a t' b t
    | str b => obtain ⟨t, rfl⟩ := rx; exact SeqAt.EqAt.int_str a t' b t
    | _ => exact absurd (show false = true from fx) Bool.false_ne_true
  | str a =>
    obtain ⟨t', rfl⟩ := ry
    cases x with
    | non => cases rx; exact SeqAt.EqAt.str_none a t'
    | bl b => cases rx; exact SeqAt.EqAt.str_bool a t' b
    | int b => obtain ⟨t, rfl⟩ := rx; exact SeqAt.EqAt.str_int a t' b t
    | str b => obtain ⟨t, rfl⟩ := rx; exact SeqAt.EqAt.str_str a t' b t
    | _ => exact absurd (show false = true from fx) Bool.false_ne_true
  | _ => exact absurd (show false = true from fy) Bool.false_ne_true
/-- the items' answers, read off the values (a value's own answer does not lean on its token) -/
def eqU (x : V) (u : Value) : Bool := match u with
  | .none => eqV .non x
  | .bool b => eqV (.bl b) x
  | .int i _ => eqV (.int i) x
  | .str z _ => eqV (.str z) x
  | _ => false
theorem eqU_of {x y : V} {u : Value} (r : RelV y u) (f : flatV y = true) : eqU x u = eqV y x := by
  cases y with
  | non => cases r; rfl
  | bl b => cases r; rfl
  | int i => obtain ⟨t, rfl⟩ := r; rfl
  | str z => obtain ⟨t, rfl⟩ := r; rfl
  | _ => exact absurd (show false = true from f) Bool.false_ne_true
theorem any_eqU {x : V} : ∀ {xs : List V} {us : List Value}, Vals xs us → xs.all flatV = true → us.any (eqU x) = xs.any fun y => eqV y x
  | _, _, .nil, _ => rfl
  | y :: xs, u :: us, .cons r t, f => by
    rw [List.all_cons, Bool.and_eq_true] at f
    rw [List.any_cons, List.any_cons, eqU_of r f.1, any_eqU t f.2]
theorem mem_eqAt {A : Around} {s : Shared} {x : V} {v : Value} (rx : RelV x v) (fx : flatV x = true) : ∀ {xs : List V} {us : List Value}, Vals xs us → xs.all flatV = true → ∀ u ∈ us, SeqAt.EqAt A s u v (eqU x u)
  | _, _, .nil, _ => fun u hu => by cases hu
  | y :: xs, u :: us, .cons r t, f => fun u' hu => by
    rw [List.all_cons, Bool.and_eq_true] at f
    rcases List.mem_cons.mp hu with rfl | hu
    · rw [eqU_of r f.1]; exact eqAt_V r rx f.1 fx
    · exact mem_eqAt rx fx t f.2 u' hu
def inV (x : V) (xs : List V) : Bool := xs.any fun y => eqV y x
/-- x in a list or tuple of flat items -/
def rIn (K : PySem.W.Frag) (neg : Bool) : R2 := fun x y H Q => ∃ p xs, y = .ref p ∧ (SqL K H p xs ∨ SqT K H p xs) ∧ flatV x = true ∧ xs.all flatV = true ∧ Q (.bl (if neg then !inV x xs else inV x xs)) H
theorem op_in_seq : OpR X (compareOp .In) (rIn X.K false) := by
  intro pins s σ H x y v u Q I rx ry h
  obtain ⟨p, xs, rfl, hq, fx, fs, q⟩ := h
  cases ry
  rcases hq with hq | hq
  · obtain ⟨its, r, pl, hz⟩ := I.list hq
    refine SeqAt.in_listAt (eqU x) pl.isList (fun w hw => mem_eqAt rx fx r fs w (by simpa using hw)) ⟨.bl _, H, I, rfl, ?_⟩
    rw [show its.toArray.any (eqU x) = its.any (eqU x) by simp, any_eqU r fs]
    exact q
  · obtain ⟨its, r, pl, hz⟩ := I.tuple hq
    refine SeqAt.in_tupleAt (eqU x) pl (fun w hw => mem_eqAt rx fx r fs w (by simpa using hw)) ⟨.bl _, H, I, rfl, ?_⟩
    rw [show its.toArray.any (eqU x) = its.any (eqU x) by simp, any_eqU r fs]
    exact q
theorem op_notIn_seq : OpR X (compareOp .NotIn) (rIn X.K true) := by
  intro pins s σ H x y v u Q I rx ry h
  obtain ⟨p, xs, rfl, hq, fx, fs, q⟩ := h
  cases ry
  rcases hq with hq | hq
  · obtain ⟨its, r, pl, hz⟩ := I.list hq
    refine SeqAt.notIn_listAt (eqU x) pl.isList (fun w hw => mem_eqAt rx fx r fs w (by simpa using hw)) ⟨.bl _, H, I, rfl, ?_⟩
    rw [show its.toArray.any (eqU x) = its.any (eqU x) by simp, any_eqU r fs]
    exact q
  · obtain ⟨its, r, pl, hz⟩ := I.tuple hq
    refine SeqAt.notIn_tupleAt (eqU x) pl (fun w hw => mem_eqAt rx fx r fs w (by simpa using hw)) ⟨.bl _, H, I, rfl, ?_⟩
    rw [show its.toArray.any (eqU x) = its.any (eqU x) by simp, any_eqU r fs]
    exact q
theorem op_notIn_str : OpR X (compareOp .NotIn) (fun x y H Q => ∃ i j, x = .str i ∧ y = .str j ∧ Q (.bl (!(!(Builtin.Str.occurrences j i 0 j.length 1).isEmpty))) H) := by
  intro pins s σ H x y v u Q I rx ry h
  obtain ⟨i, j, rfl, rfl, q⟩ := h
  obtain ⟨t, rfl⟩ := rx
  obtain ⟨t', rfl⟩ := ry
  exact notIn_str ⟨.bl _, H, I, rfl, q⟩

/-! ### len, list(x), tuple(x) of any list or tuple that is read -/
theorem call_len_seq : CallR X (.builtin "len") (fun xs H Q => ∃ p ys, xs = [.ref p] ∧ (SqL X.K H p ys ∨ SqT X.K H p ys) ∧ Q (.int ys.length) H) := by
  intro pins s σ H xs us Q I r h
  obtain ⟨p, ys, rfl, hq, q⟩ := h
  obtain ⟨u, rfl, rx⟩ := vals1 r
  cases rx
  have hn := line63
  rcases hq with hq | hq
  · obtain ⟨its, r', pl, hz⟩ := I.list hq
    have hlen := r'.length
    exact Calls.call_len_list pl.isList (by simp only [List.size_toArray] <;> omega) ⟨.int ys.length, H, I.tok _, ⟨s.toks + 1, by rw [List.size_toArray, hlen]⟩, q⟩
  · obtain ⟨its, r', pl, hz⟩ := I.tuple hq
    have hlen := r'.length
    exact len_tuple pl (by simp only [List.size_toArray] <;> omega) ⟨.int ys.length, H, I.tok _, ⟨s.toks + 1, by rw [List.size_toArray, hlen]⟩, q⟩
theorem call_len_str : CallR X (.builtin "len") (fun xs H Q => ∃ z, xs = [.str z] ∧ z.length ≤ sizeLine ∧ Q (.int z.length) H) := by
  intro pins s σ H xs us Q I r h
  obtain ⟨z, rfl, hz, q⟩ := h
  obtain ⟨u, rfl, t, rfl⟩ := vals1 r
  have hn := line63
  exact len_str (by omega) ⟨.int z.length, H, I.tok _, ⟨_, rfl⟩, q⟩
theorem CallR.or {f : Value} {r r' : List V → Hp → VK → Prop} (h : CallR X f r) (h' : CallR X f r') : CallR X f (fun xs H Q => r xs H Q ∨ r' xs H Q) := by
  intro pins s σ H xs us Q I rs q
  rcases q with q | q
  · exact h pins s σ H xs us Q I rs q
  · exact h' pins s σ H xs us Q I rs q
theorem call_list_of : CallR X (.type "list") (fun xs H Q => ∃ p ys, xs = [.ref p] ∧ (SqL X.K H p ys ∨ SqT X.K H p ys) ∧ ∀ l, H l = none → Q (.ref l) (upd H l (.lst ys))) := by
  intro pins s σ H xs us Q I r h
  obtain ⟨p, ys, rfl, hq, q⟩ := h
  obtain ⟨u, rfl, rx⟩ := vals1 r
  cases rx
  have fin : ∀ (its : List Value), Vals ys its → ys.length ≤ sizeLine → ∀ (h' : Heap) (c' : Nat), (∀ b o', s.heap.get? b = some o' → h'.get? b = some o') →
      h'.get? s.heap.objs.size = some { cls := .type "list", dict := none, data := .seq its.toArray c', slots := #[] } → EP X pins σ Q (.ref s.heap.objs.size) { s with heap := h' } := fun its r' hz h' c' kp e =>
    ⟨.ref s.heap.objs.size, _, I.laid (t' := s.toks) kp (Nat.le_refl _) (show ObjOk X.prog X.w _ h' _ (.lst ys) from ⟨hz, its, c', r', e⟩), rfl, q _ (I.hok.fresh (Nat.le_refl _))⟩
  rcases hq with hq | hq
  · obtain ⟨its, r', pl, hz⟩ := I.list hq
    have hlen := r'.length
    obtain ⟨o, ho, hc, n, hd⟩ := pl.isList
    exact call_list_seq p (.inl rfl) ho hc hd (fun h' c' kp e => fin its r' hz h' c' kp e) (by simp only [List.size_toArray] <;> omega)
  · obtain ⟨its, r', pl, hz⟩ := I.tuple hq
    have hlen := r'.length
    obtain ⟨o, ho, hc, n, hd⟩ := pl
    exact call_list_seq p (.inr rfl) ho hc hd (fun h' c' kp e => fin its r' hz h' c' kp e) (by simp only [List.size_toArray] <;> omega)
theorem call_tuple_of : CallR X (.type "tuple") (fun xs H Q => ∃ p ys, xs = [.ref p] ∧ ((SqL X.K H p ys ∧ ∀ l, H l = none → Q (.ref l) (upd H l (.tup ys))) ∨ (SqT X.K H p ys ∧ Q (.ref p) H))) := by
  intro pins s σ H xs us Q I r h
  obtain ⟨p, ys, rfl, h⟩ := h
  obtain ⟨u, rfl, rx⟩ := vals1 r
  cases rx
  rcases h with ⟨hq, q⟩ | ⟨hq, q⟩
  · obtain ⟨its, r', pl, hz⟩ := I.list hq
    have hlen := r'.length
    refine call_tuple_list pl.isList (fun h' kp => ?_) (by simp only [List.size_toArray] <;> omega)
    have I1 : Inv X pins σ H { s with heap := h' } := I.kept (t' := s.toks) kp
    have I2 : Inv X pins σ (upd H h'.objs.size (.tup ys)) { s with heap := h'.push { cls := .type "tuple", data := .seq its.toArray } } :=
      I1.laid (t' := s.toks) (fun b o e => Heap.get?_push_of_some _ e) (Nat.le_refl _) (show ObjOk X.prog X.w _ _ _ (.tup ys) from ⟨hz, its, r', IsTup.new _ _⟩)
    exact ⟨.ref h'.objs.size, _, I2, rfl, q _ (I1.hok.fresh (Nat.le_refl _))⟩
  · obtain ⟨its, r', pl, hz⟩ := I.tuple hq
    exact call_tuple_same pl ⟨.ref p, H, I, rfl, q⟩

/-! ### the call of a builtin's method: o.m(..) -/
/-- the value is of that builtin type -/
def tyV (K : PySem.W.Frag) (T : String) (x : V) (H : Hp) : Prop := match x with
  | .str _ => T = "str"
  | .int _ => T = "int"
  | .ref p => (T = "list" ∧ ∃ xs, SqL K H p xs) ∨ (T = "tuple" ∧ ∃ o, K.lookup p = some o ∧ o.cls = .type "tuple" ∧ o.dict = none) ∨
      (T = "dict" ∧ ((∃ kvs, H p = some (.dK kvs)) ∨ ∃ kvs, H p = some (.dT kvs))) ∨ (T = "set" ∧ ∃ S n, H p = some (.set S n))
  | _ => False
theorem tyV_is {pins : List (Addr × Obj)} {σ : St} {H : Hp} {s : Shared} {T : String} {x : V} {v : Value} (I : Inv X pins σ H s) (r : RelV x v) (ty : tyV X.K T x H) :
    s.TypeIs v T ∧ ∀ a, v = .ref a → ∃ ob, s.heap.get? a = some ob ∧ ob.dict = none := by
  cases x with
  | str z =>
    obtain ⟨t, rfl⟩ := r
    cases (show T = "str" from ty)
    exact ⟨typeIs_str s z t, fun _ e => nomatch e⟩
  | int i =>
    obtain ⟨t, rfl⟩ := r
    cases (show T = "int" from ty)
    exact ⟨typeIs_int s i t, fun _ e => nomatch e⟩
  | ref p =>
    cases r
    rcases ty with ⟨rfl, xs, hq⟩ | ⟨rfl, o, hk, hc, hd⟩ | ⟨rfl, hk⟩ | ⟨rfl, S, n, hk⟩
    · obtain ⟨its, _, pl, _⟩ := I.list hq
      refine ⟨pl.isList.typeIs, fun a e => ?_⟩
      cases e
      obtain ⟨o, n, e, c, hd, _⟩ := pl
      exact ⟨o, e, hd⟩
    · refine ⟨⟨o, I.kIn p o hk, hc⟩, fun a e => ?_⟩
      cases e
      exact ⟨o, I.kIn _ o hk, hd⟩
    · have z : ∃ o, s.heap.get? p = some o ∧ o.ExactDict := by
        rcases hk with ⟨kvs, hk⟩ | ⟨kvs, hk⟩
        · obtain ⟨_, _, _, _, o, _, _, e, ex, _⟩ := I.hok p _ hk
          exact ⟨o, e, ex⟩
        · obtain ⟨_, _, _, _, o, _, _, e, ex, _⟩ := I.hok p _ hk
          exact ⟨o, e, ex⟩
      obtain ⟨o, e, ex⟩ := z
      refine ⟨⟨o, e, ex.1⟩, fun a e2 => ?_⟩
      cases e2
      exact ⟨o, e, ex.2.1⟩
    · obtain ⟨o, _, _, _, e, ex, _⟩ := I.hok p _ hk
      refine ⟨⟨o, e, ex.1⟩, fun a e2 => ?_⟩
      cases e2
      exact ⟨o, e, ex.2.1⟩
  | _ => exact False.elim ty
def tBM0 (K : PySem.W.Frag) (T : String) (r : V → List V → Hp → VK → Prop) (to : TE) : TE := fun σ H Q => to σ H fun x H1 => tyV K T x H1 ∧ r x [] H1 Q
def tBM (K : PySem.W.Frag) (T : String) (r : V → List V → Hp → VK → Prop) (to : TE) (t : TA) : TE := fun σ H Q => to σ H fun x H1 => tyV K T x H1 ∧ t σ H1 fun xs H2 => r x xs H2 Q
variable {o e : Expr} {es : List Expr} {to : TE} {t : TA} {name : Str} {apos cpos : Pos} {T id : String} {r : V → List V → Hp → VK → Prop}
theorem pe_bm0 (pa : PlainAttrs T) (slot : Slot T name id) (hty : typeOf (.builtin id) = pure (.type "method_descriptor")) (hm : MtR X id r) (ho : PE X o to)
    (hbase : attributeBase o name X.env (eval o X.env) = eval o X.env := by rfl) (hline : (apos.endLine == cpos.line) = true := by rfl) : PE X (.Call (.Attribute o name apos) [] [] cpos) (tBM0 X.K T r to) := by
  intro pins s σ H Q I h
  refine wpAny_Call_method0_late hbase hline (thn (ho pins s σ H _ I h) fun v s1 ⟨x, H1, I1, r1, ty, q1⟩ => ?_)
  obtain ⟨h1, h2⟩ := tyV_is I1 r1 ty
  exact ⟨T, id, pa, slot, hty, h1, h2, Calls.callWith_builtin rfl (PySem.evalArgs_none (hm pins s1 σ H1 x [] v [] Q I1 r1 .nil q1))⟩
theorem pe_bm (pa : PlainAttrs T) (slot : Slot T name id) (hty : typeOf (.builtin id) = pure (.type "method_descriptor")) (hm : MtR X id r) (ho : PE X o to) (ha : PA X (e :: es) t)
    (hbase : attributeBase o name X.env (eval o X.env) = eval o X.env := by rfl)
    (hfew : ((backTo cpos (starEach (e :: es) X.env)).all (fun x => !x.1) && (backToKw cpos (keywordEach [] X.env)).all (fun x => x.1.isSome)
      && decide ((e :: es).length + ([] : List Keyword).length + (if ([] : List Keyword).isEmpty then 0 else 1) < 30)) = true := by rfl)
    (hline : (apos.endLine == cpos.line) = true := by rfl) (hs : starEach (e :: es) X.env = (false, eval e X.env) :: starEach es X.env := by rfl) (hplain : (backTo cpos (starEach es X.env)).any (·.1) = false := by rfl) :
    PE X (.Call (.Attribute o name apos) (e :: es) [] cpos) (tBM X.K T r to t) := by
  intro pins s σ H Q I h
  refine wpAny_Call_method_late hbase hfew hline rfl (thn (ho pins s σ H _ I h) fun v s1 ⟨x, H1, I1, r1, ty, q1⟩ => ?_)
  obtain ⟨h1, h2⟩ := tyV_is I1 r1 ty
  refine ⟨T, id, pa, slot, hty, h1, h2, ?_⟩
  have hA := ha cpos pins s1 σ H1 _ I1 q1
  rw [hs] at hA ⊢
  refine Calls.callWith_builtin (by show (false || (backTo cpos (starEach es X.env)).any (·.1)) = false; rw [hplain] <;> rfl) (Calls.evalArgs_plain ?_)
  exact thn hA fun us s2 ⟨vs, H2, I2, r2, q2⟩ => hm pins s2 σ H2 x vs v us Q I2 r1 r2 q2
/- xs.append(e), list.index on a module's tuple .. are MtR facts of 06m -/
end
end L2

namespace L2
open PySem PySem.Spec PyProof.Rows

def MtM (X : Cx) (id : String) (r : V → List V → Hp → VK → Prop) : Prop :=
  ∀ (pins : List (Addr × Obj)) (s : Shared) (σ : St) (H : Hp) (x : V) (xs : List V) (v : Value) (us : List Value) (Q : VK), Inv X pins σ H s → RelV x v → Vals xs us → r x xs H Q →
    wpAny (model X.prog X.w) X.A (call (.builtin id) (v :: us)) (EP X pins σ Q) X.xe s

/-! ### lists of values -/
theorem Vals.one : ∀ {x : V} {us : List Value}, Vals [x] us → ∃ u, us = [u] ∧ RelV x u
  | _, _, .cons r .nil => ⟨_, rfl, r⟩
theorem Vals.two : ∀ {x y : V} {us : List Value}, Vals [x, y] us → ∃ u v, us = [u, v] ∧ RelV x u ∧ RelV y v
  | _, _, _, .cons r (.cons q .nil) => ⟨_, _, rfl, r, q⟩
theorem Vals.zero : ∀ {us : List Value}, Vals [] us → us = []
  | _, .nil => rfl
theorem Vals.dropLast {xs : List V} {us : List Value} (h : Vals xs us) : Vals xs.dropLast us.dropLast := by
  induction h with
  | nil => exact .nil
  | cons r t ih =>
    cases t with
    | nil => exact .nil
    | cons q t' => exact .cons r ih
theorem Vals.eraseIdx : ∀ {xs : List V} {us : List Value} (i : Nat), Vals xs us → Vals (xs.eraseIdx i) (us.eraseIdx i)
  | _, _, _, .nil => .nil
  | _, _, 0, .cons _ t => t
  | _, _, i + 1, .cons r t => .cons r (Vals.eraseIdx i t)
theorem Vals.reverse {xs : List V} {us : List Value} (h : Vals xs us) : Vals xs.reverse us.reverse := by
  induction h with
  | nil => exact .nil
  | cons r t ih => rw [List.reverse_cons, List.reverse_cons]; exact Vals.append ih (.cons r .nil)
theorem Vals.rep {xs : List V} {us : List Value} (h : Vals xs us) : ∀ k : Nat, Vals (List.replicate k xs).flatten (List.replicate k us).flatten
  | 0 => .nil
  | k + 1 => by
    rw [List.replicate_succ, List.replicate_succ, List.flatten_cons, List.flatten_cons]
    exact Vals.append h (Vals.rep h k)
theorem erase_last {α : Type} (l : List α) : l.eraseIdx (l.length - 1) = l.dropLast := by
  induction l with
  | nil => rfl
  | cons a r ih =>
    cases r with
    | nil => rfl
    | cons b r =>
      have e : (a :: b :: r).length - 1 = ((b :: r).length - 1) + 1 := by
        have h1 : (a :: b :: r).length = r.length + 2 := rfl
        have h2 : (b :: r).length = r.length + 1 := rfl
        omega
      rw [e, List.eraseIdx_cons_succ, ih]
      all_goals rfl
theorem len_erase {α : Type} : ∀ (l : List α) (i : Nat), (l.eraseIdx i).length ≤ l.length
  | [], _ => Nat.le_refl _
  | _ :: _, 0 => Nat.le_succ _
  | _ :: r, i + 1 => Nat.succ_le_succ (len_erase r i)
theorem foldl_rep (its : List Value) : ∀ (k : Nat) (acc : List Value),
    List.foldl (fun x1 x2 => x1 ++ x2) acc.toArray (List.replicate k its.toArray) = (acc ++ (List.replicate k its).flatten).toArray
  | 0, acc => by simp
  | k + 1, acc => by
    have e : acc.toArray ++ its.toArray = (acc ++ its).toArray := by simp
    have e2 : (acc ++ its) ++ (List.replicate k its).flatten = acc ++ (List.replicate (k + 1) its).flatten := by
      rw [List.replicate_succ, List.flatten_cons, List.append_assoc]
    rw [← e2, ← foldl_rep its k (acc ++ its), ← e, List.replicate_succ, List.foldl_cons]

section
variable {X : Cx} {pins : List (Addr × Obj)} {σ : St} {H : Hp} {s : Shared} {l b : Addr} {xs ys zs : List V}

/-! ### the two steps: a tracked list is rewritten, a new list is laid -/
theorem Inv.lset {its its' : List Value} {n : Nat} {f : Array Value → Array Value} {t' : Nat} (I : Inv X pins σ H s) (hH : H l = some (.lst xs))
    (e : s.heap.get? l = some { cls := .type "list", data := .seq its.toArray n }) (hf : f its.toArray = its'.toArray) (hv : Vals ys its') (hz : ys.length ≤ sizeLine) :
    Inv X pins σ (upd H l (.lst ys)) { s with heap := s.heap.update l (Obj.mapSeq f), toks := t' } := by
  have q := PySem.IsL.update e f
  rw [hf] at q
  refine I.write (x := l) (e := l) (by rw [hH]; exact trivial) (.inl rfl) (fun b' u hb hu => (Heap.get?_update_other s.heap (Obj.mapSeq f) (Ne.symm hb)).trans hu) ⟨_, q⟩ ?_
  exact ⟨hz, its', _, hv, q⟩
theorem Inv.lnew {its : List Value} {t' : Nat} (I : Inv X pins σ H s) (hv : Vals ys its) (hz : ys.length ≤ sizeLine) :
    Inv X pins σ (upd H s.heap.objs.size (.lst ys)) { s with heap := s.heap.push { cls := .type "list", data := .seq its.toArray }, toks := t' } :=
  I.laid (fun _ _ q => Heap.get?_push_of_some _ q) (Nat.le_refl _) ⟨hz, its, 0, hv, Heap.get?_push_size _ rfl⟩
theorem Inv.fresh (I : Inv X pins σ H s) : H s.heap.objs.size = none := I.hok.fresh (Nat.le_refl _)
theorem Inv.lstM (I : Inv X pins σ H s) (hH : H l = some (.lst xs)) : xs.length ≤ sizeLine ∧ ∃ (its : List Value) (n : Nat), Vals xs its ∧ xs.length = its.length ∧ s.heap.get? l = some { cls := .type "list", data := .seq its.toArray n } := by
  obtain ⟨z, its, n, r, e⟩ := I.hok l _ hH
  exact ⟨z, its, n, r, r.length, e⟩

theorem notLongL {n : Nat} (h : n ≤ sizeLine) : Builtin.List.listTooLong n = false := by
  unfold Builtin.List.listTooLong
  exact decide_eq_false (by omega)
end

section
variable {X : Cx}

/-! ### methods -/
def rAppend : V → List V → Hp → VK → Prop := fun x vs H Q => ∃ l xs y, x = .ref l ∧ vs = [y] ∧ H l = some (.lst xs) ∧ xs.length < sizeLine ∧ Q .non (upd H l (.lst (xs ++ [y])))
theorem mt_append : MtM X "list.append" rAppend := by
  intro pins s σ H x vs v us Q I rx rv h
  obtain ⟨l, xs, y, rfl, rfl, hH, hz, q⟩ := h
  cases rx
  obtain ⟨u, rfl, ru⟩ := rv.one
  obtain ⟨z, its, n, r, hl, e⟩ := I.lstM hH
  refine call_meets F.slot_list_append ⟨_, e, rfl⟩ F.entry_list_append (F.args_list_append_2 _ _) (PySem.list_append l its.toArray n u (by rw [List.size_toArray]; omega)) ⟨e, ?_⟩
  refine ⟨.non, _, I.lset (its' := its ++ [u]) hH e (by simp) (r.append (.cons ru .nil)) ?_, rfl, q⟩
  rw [List.length_append, List.length_singleton]
  omega

def rExtend : V → List V → Hp → VK → Prop := fun x vs H Q => ∃ l b xs zs, x = .ref l ∧ vs = [.ref b] ∧ H l = some (.lst xs) ∧ H b = some (.lst zs) ∧ xs.length + zs.length ≤ sizeLine ∧ Q .non (upd H l (.lst (xs ++ zs)))
theorem mt_extend : MtM X "list.extend" rExtend := by
  intro pins s σ H x vs v us Q I rx rv h
  obtain ⟨l, b, xs, zs, rfl, rfl, hH, hB, hz, q⟩ := h
  cases rx
  obtain ⟨u, rfl, ru⟩ := rv.one
  cases ru
  obtain ⟨z, its, n, r, hl, e⟩ := I.lstM hH
  obtain ⟨z2, its2, n2, r2, hl2, e2⟩ := I.lstM hB
  have hsz : its.toArray.size + its2.toArray.size ≤ sizeLine := by rw [List.size_toArray, List.size_toArray]; omega
  have hlong : ¬ (!its.toArray.isEmpty && Builtin.List.listTooLong (its.toArray.size + its2.toArray.size)) = true := by
    rw [notLongL hsz, Bool.and_false]
    exact Bool.false_ne_true
  refine call_meets F.slot_list_extend ⟨_, e, rfl⟩ F.entry_list_extend (F.args_list_extend_2 _ _)
    (AutoSeq1.list_extend_list_list_0 l its.toArray n b its2.toArray n2 hlong (by rw [List.size_toArray]; omega) (by omega)) ⟨e, e2, ?_⟩
  refine ⟨.non, _, I.lset (its' := its ++ its2) hH e (by simp) (r.append r2) ?_, rfl, q⟩
  rw [List.length_append]
  omega

def rPop : V → List V → Hp → VK → Prop := fun x vs H Q => ∃ l xs y, x = .ref l ∧ vs = [] ∧ H l = some (.lst xs) ∧ xs[xs.length - 1]? = some y ∧ Q y (upd H l (.lst xs.dropLast))
theorem mt_pop : MtM X "list.pop" rPop := by
  intro pins s σ H x vs v us Q I rx rv h
  obtain ⟨l, xs, y, rfl, rfl, hH, hy, q⟩ := h
  cases rx
  have hus := rv.zero
  subst hus
  obtain ⟨z, its, n, r, hl, e⟩ := I.lstM hH
  obtain ⟨u, hu, ru⟩ := r.get hy
  have hy' : its.toArray[its.toArray.size - 1]? = some u := by
    show its.toArray[its.length - 1]? = some u
    rw [← Array.getElem?_toList, ← hl]
    exact hu
  refine call_meets F.slot_list_pop ⟨_, e, rfl⟩ F.entry_list_pop (F.args_list_pop_1 _) (MeetsSeq.list_pop_last l its.toArray n u hy' (by rw [List.size_toArray]; omega)) ⟨e, ?_⟩
  refine ⟨y, _, I.lset (its' := its.dropLast) hH e ?_ r.dropLast ?_, ru, q⟩
  · show its.toArray.eraseIdxIfInBounds (its.toArray.size - 1) = its.dropLast.toArray
    rw [List.size_toArray, List.eraseIdxIfInBounds_toArray, erase_last]
  · rw [List.length_dropLast]
    omega

def rPopAt : V → List V → Hp → VK → Prop := fun x vs H Q => ∃ l xs i k y, x = .ref l ∧ vs = [.int i] ∧ H l = some (.lst xs) ∧ -(2 ^ 63) ≤ i ∧ i < 2 ^ 63 ∧ seqIndex? i xs.length = some k ∧ xs[k]? = some y ∧ Q y (upd H l (.lst (xs.eraseIdx k)))
theorem mt_popAt : MtM X "list.pop" rPopAt := by
  intro pins s σ H x vs v us Q I rx rv h
  obtain ⟨l, xs, i, k, y, rfl, rfl, hH, h1, h2, hk, hy, q⟩ := h
  cases rx
  obtain ⟨u, rfl, ru⟩ := rv.one
  obtain ⟨t, rfl⟩ := ru
  obtain ⟨z, its, n, r, hl, e⟩ := I.lstM hH
  obtain ⟨w, hw, rw'⟩ := r.get hy
  refine call_meets F.slot_list_pop ⟨_, e, rfl⟩ F.entry_list_pop (F.args_list_pop_2 _ _)
    (MeetsSeq.list_pop_at l its.toArray n i t k w (fitsIndex_both h1 h2) (by rw [List.size_toArray, ← hl]; exact hk) (by rw [← Array.getElem?_toList]; exact hw) (by rw [List.size_toArray]; omega)) ⟨e, ?_⟩
  refine ⟨y, _, I.lset (its' := its.eraseIdx k) hH e ?_ (r.eraseIdx k) ?_, rw', q⟩
  · show its.toArray.eraseIdxIfInBounds k = (its.eraseIdx k).toArray
    rw [List.eraseIdxIfInBounds_toArray]
  · have := len_erase xs k
    omega

def rReverse : V → List V → Hp → VK → Prop := fun x vs H Q => ∃ l xs, x = .ref l ∧ vs = [] ∧ H l = some (.lst xs) ∧ Q .non (upd H l (.lst xs.reverse))
theorem mt_reverse : MtM X "list.reverse" rReverse := by
  intro pins s σ H x vs v us Q I rx rv h
  obtain ⟨l, xs, rfl, rfl, hH, q⟩ := h
  cases rx
  have hus := rv.zero
  subst hus
  obtain ⟨z, its, n, r, hl, e⟩ := I.lstM hH
  refine call_meets F.slot_list_reverse ⟨_, e, rfl⟩ F.entry_list_reverse (F.args_list_reverse_1 _) (AutoSeq1.list_reverse_list_0 l its.toArray n (by rw [List.size_toArray]; omega)) ⟨e, ?_⟩
  refine ⟨.non, _, I.lset (its' := its.reverse) hH e (by simp) r.reverse ?_, rfl, q⟩
  rw [List.length_reverse]
  omega

def rClear : V → List V → Hp → VK → Prop := fun x vs H Q => ∃ l xs, x = .ref l ∧ vs = [] ∧ H l = some (.lst xs) ∧ Q .non (upd H l (.lst []))
theorem mt_clear : MtM X "list.clear" rClear := by
  intro pins s σ H x vs v us Q I rx rv h
  obtain ⟨l, xs, rfl, rfl, hH, q⟩ := h
  cases rx
  have hus := rv.zero
  subst hus
  obtain ⟨z, its, n, r, hl, e⟩ := I.lstM hH
  refine call_meets F.slot_list_clear ⟨_, e, rfl⟩ F.entry_list_clear (F.args_list_clear_1 _) (AutoSeq1.list_clear_list_0 l its.toArray n (by rw [List.size_toArray]; omega)) ⟨e, ?_⟩
  exact ⟨.non, _, I.lset (its' := []) (ys := []) hH e rfl .nil (Nat.zero_le _), rfl, q⟩

/-! ### list + list, list += list, list * int -/
def rCat : R2 := fun x y H Q => ∃ l b xs zs, x = .ref l ∧ y = .ref b ∧ H l = some (.lst xs) ∧ H b = some (.lst zs) ∧ xs.length + zs.length ≤ sizeLine ∧ ∀ p, H p = none → Q (.ref p) (upd H p (.lst (xs ++ zs)))
theorem op_cat : OpR X (binaryOp .Add) rCat := by
  intro pins s σ H x y v u Q I rx ry h
  obtain ⟨l, b, xs, zs, rfl, rfl, hH, hB, hz, q⟩ := h
  cases rx
  cases ry
  obtain ⟨z, its, n, r, hl, e⟩ := I.lstM hH
  obtain ⟨z2, its2, n2, r2, hl2, e2⟩ := I.lstM hB
  refine PySem.P.add_list e e2 ?_ (by rw [List.size_toArray, List.size_toArray]; omega)
  have ea : its.toArray ++ its2.toArray = (its ++ its2).toArray := by simp
  rw [ea]
  exact ⟨.ref _, _, I.lnew (t' := s.toks) (r.append r2) (by rw [List.length_append]; omega), rfl, q _ I.fresh⟩
/-- a list times an int (a negative one is nothing) -/
def rRep : R2 := fun x y H Q => ∃ l k xs, x = .ref l ∧ y = .int k ∧ H l = some (.lst xs) ∧ -(2 ^ 63) ≤ k ∧ k < 2 ^ 63 ∧ xs.length * k.toNat ≤ sizeLine ∧
  ∀ p, H p = none → Q (.ref p) (upd H p (.lst (List.replicate k.toNat xs).flatten))
theorem len_rep {α : Type} (xs : List α) (k : Nat) : (List.replicate k xs).flatten.length = k * xs.length := by
  induction k with
  | zero => simp
  | succ k ih => rw [List.replicate_succ, List.flatten_cons, List.length_append, ih, Nat.succ_mul, Nat.add_comm]
theorem op_rep : OpR X (binaryOp .Mult) rRep := by
  intro pins s σ H x y v u Q I rx ry h
  obtain ⟨l, k, xs, rfl, rfl, hH, h1, h2, hz, q⟩ := h
  cases rx
  obtain ⟨t, rfl⟩ := ry
  obtain ⟨z, its, n, r, hl, e⟩ := I.lstM hH
  have hlen : its.toArray.size * k.toNat ≤ sizeLine := by rw [List.size_toArray, ← hl]; exact hz
  have hcap : ¬ its.toArray.size * k.toNat > (2 ^ 63 - 1) / 8 := by
    have : (sizeLine : Nat) ≤ (2 ^ 63 - 1) / 8 := by decide
    omega
  have hfit : ¬ (!Builtin.List.listFitsIndex k) = true := by
    rw [fitsIndex_both h1 h2]
    exact Bool.false_ne_true
  have hlong : ¬ Builtin.List.listTooLong (its.toArray.size * k.toNat) = true := by
    rw [notLongL hlen]
    exact Bool.false_ne_true
  have hnew : List.foldl (fun x1 x2 => x1 ++ x2) #[] (List.replicate (if its.toArray.isEmpty = true then 0 else k.toNat) its.toArray) = (List.replicate k.toNat its).flatten.toArray := by
    have f0 : ∀ m : Nat, List.foldl (fun x1 x2 => x1 ++ x2) #[] (List.replicate m its.toArray) = (List.replicate m its).flatten.toArray := fun m => by
      have := foldl_rep its m []
      rw [List.nil_append] at this
      exact this
    rw [f0]
    cases its with
    | nil => simp
    | cons a r' => rw [if_neg (by simp)]
  refine wpAny_binaryOp_repeat_ref (T := "list") (U := "int") (by decide) ⟨_, e, rfl⟩ (fun s' => typeIs_int s' k t) noFill_list_mul F.fills_int_mul F.slot_int_rmul repeat_list F.slot_int_index.lookup
    (call_meets F.slot_int_rmul (typeIs_int s k t) F.entry_int_rmul (F.args_int_rmul_2 _ _) (int___rmul___int_list k t l its.toArray n)
      ⟨e, rfl, ⟨_, e, rfl⟩, call_meets F.slot_list_mul ⟨_, e, rfl⟩ F.entry_list_mul (F.args_list_mul_2 _ _) (AutoListH.list___mul___list_int_3 l its.toArray n k t hfit hcap hlong) ⟨e, ?_⟩⟩)
  rw [hnew]
  exact ⟨.ref _, _, I.lnew (t' := s.toks) (r.rep k.toNat) (by rw [len_rep, Nat.mul_comm]; exact hz), rfl, q _ I.fresh⟩

/-! ### del xs[i] -/
theorem del_list {pins : List (Addr × Obj)} {s : Shared} {σ : St} {H : Hp} {l : Addr} {xs : List V} {i : Int} {t : Tok} {k : Nat} {Q : Unit → Shared → Prop} (I : Inv X pins σ H s) (hH : H l = some (.lst xs))
    (h1 : -(2 ^ 63) ≤ i) (h2 : i < 2 ^ 63) (hk : seqIndex? i xs.length = some k) (h : ∀ s', Inv X pins σ (upd H l (.lst (xs.eraseIdx k))) s' → Q () s') :
    wpAny (model X.prog X.w) X.A (delItem (.ref l) (.int i t)) Q X.xe s := by
  obtain ⟨z, its, n, r, hl, e⟩ := I.lstM hH
  refine PySem.P.delItem_list (k := k) e (fitsIndex_both h1 h2) (by rw [List.size_toArray, ← hl]; exact hk) (h _ ?_) (by rw [List.size_toArray]; omega)
  refine I.lset (its' := its.eraseIdx k) (t' := s.toks) hH e ?_ (r.eraseIdx k) ?_
  · show its.toArray.eraseIdxIfInBounds k = (its.eraseIdx k).toArray
    rw [List.eraseIdxIfInBounds_toArray]
  · have := len_erase xs k
    omega
end

/-! ### xs[a:b] = ys -/
section
variable {prog : Program} {w : World} {A : Around} {E : Value → Shared → Prop} {s : Shared}
theorem splice_eq (its its2 : List Value) (a c : Nat) : its.toArray.extract 0 a ++ its2.toArray ++ its.toArray.extract c its.toArray.size = (its.take a ++ its2 ++ its.drop c).toArray := by
  apply Array.toList_inj.mp
  first
    | (simp
       exact List.take_of_length_le (by simp))
    | simp [List.take_of_length_le]
    | simp
theorem bounds_run {a c n : Nat} (hac : a ≤ c) (hc : c ≤ n) : sliceBounds (some (a : Int)) (some (c : Int)) none n = ((a : Int), (c : Int), 1) := by
  simp only [sliceBounds, Option.getD_none]
  have h1 : ¬ ((a : Int) < 0) := by omega
  have h2 : ¬ ((c : Int) < 0) := by omega
  simp only [h1, h2, if_false, show (1 : Int) > 0 by decide, if_true]
  congr 1
  · omega
  · congr 1; omega
set_option maxRecDepth 100000 in
/-- list.__setitem__ with a slice of step one and another list -/
theorem setItem_slice {l b sl : Addr} {items new : Array Value} {n n2 : Nat} {vl vu : Value} {a c : Nat} {Q : Unit → Shared → Prop}
    (e : s.heap.get? l = some { cls := .type "list", data := .seq items n }) (e2 : s.heap.get? b = some { cls := .type "list", data := .seq new n2 }) (hne : l ≠ b)
    (hs : s.heap.IsSliceOf sl vl vu .none) (pl : IsPart vl (some (a : Int))) (pu : IsPart vu (some (c : Int))) (hac : a ≤ c) (hc : c ≤ items.size)
    (hsz : items.size + new.size ≤ sizeLine) (h : Q () { s with heap := s.heap.update l (Obj.mapSeq fun xs => xs.extract 0 a ++ new ++ xs.extract c xs.size) }) :
    wpAny (model prog w) A (setItem (.ref l) (.ref sl) (.ref b)) Q E s := by
  have hl : s.heap.IsList l items := PySem.IsL.isList e
  have hb : s.heap.IsList b new := PySem.IsL.isList e2
  obtain ⟨os, hos, hcs, hds⟩ := id hs
  have hTs : s.TypeIs (.ref sl) "slice" := ⟨os, hos, hcs⟩
  have hstep : ¬ ((rawPart none == rawInt 0) = true) := Bool.false_ne_true
  have hsame : Builtin.List.listSameRef (.ref l) (.ref b) = false := by
    unfold Builtin.List.listSameRef
    exact beq_eq_false_iff_ne.mpr hne
  have hmax : (max (a : Int) (c : Int)).toNat = c := by omega
  have hz' : ((fun xs : Array Value => xs.extract 0 a ++ new ++ xs.extract c xs.size) items).size ≤ sizeLine + 1 := by
    simp only [Array.size_append, Array.size_extract]
    omega
  unfold setItem
  try with_reducible refine wpAny_holding ?_
  first | refine wpAny_bind (wpAny_pure ?_) | skip
  refine wpAny_bind (wpAny_sequenceKey hl.typeIs (by decide) ?_)
  refine wpAny_bind (wpAny_callSpecial?_slot (name := Str.ofString "__setitem__") hl.typeIs slot_list_setitem
    (wpAny_call_entry slot_list_setitem hl.typeIs entry_list_setitem ?_ (args_list_setitem _ _ _)))
  show wpAny _ _ (Builtin.List.listSubscript? (.ref sl) >>= _) _ _ s
  refine wpAny_bind ?_
  unfold Builtin.List.listSubscript?
  refine wpAny_bind (wpAny_specialOf hTs slice_no_index ?_)
  simp only [Option.isNone_none, if_true]
  refine wpAny_pure ?_
  show wpAny _ _ (typeOf (.ref sl) >>= _) _ _ s
  refine wpAny_bind (wpAny_typeOf hTs ?_)
  first
    | rw [if_neg (by decide)]
    | refine PySem.W.KFB.if_not (by decide) ?_
  rw [listSliceParts_eq]
  refine wpAny_bind (wpAny_bind (wpAny_field hos hds (x := .none) rfl (wpAny_bind (wpAny_listPart .none ?_))))
  rw [if_neg hstep]
  refine wpAny_bind (wpAny_field hos hds (x := vl) rfl (wpAny_bind (wpAny_listPart pl ?_)))
  refine wpAny_bind (wpAny_field hos hds (x := vu) rfl (wpAny_bind (wpAny_listPart pu (wpAny_pure ?_))))
  first
    | simp only [hsame, Bool.false_eq_true, if_false]
    | refine PySem.W.KFB.if_not hsame ?_
    | (dsimp only
       rw [if_neg (by rw [hsame]; exact Bool.false_ne_true)])
  refine wpAny_bind (m := Builtin.List.listAllItems (.ref b) "must assign iterable to extended slice") ?_
  unfold Builtin.List.listAllItems
  refine wpAny_bind (wpAny_typeOf hb.typeIs ?_)
  first
    | refine PySem.W.KFB.if_so (by decide) ?_
    | rw [if_pos (by decide)]
    | simp only [beq_self_eq_true, Bool.true_or, if_true]
  unfold Builtin.List.listItems
  refine wpAny_bind (wpAny_seqItems e2 rfl (wpAny_pure ?_))
  refine wpAny_bind (wpAny_bind (wpAny_seqItems e rfl (wpAny_pure ?_)))
  refine wpAny_bind (wpAny_of_eq ((sliceIndices_raw (some (a : Int)) (some (c : Int)) none items.size (by simp)).trans (congrArg (pure : Int × Int × Int → Sem (Int × Int × Int)) (bounds_run hac hc))) ?_)
  show wpAny _ _ (if ((1 : Int) == 1) = true then _ else _) _ _ s
  rw [if_pos (by decide)]
  refine wpAny_bind (wpAny_rule ?_)
  first
    | simp only [notLongL hsz, Bool.false_eq_true, if_false]
    | refine PySem.W.KFB.if_not (notLongL hsz) ?_
  first | refine wpAny_bind (wpAny_pure ?_) | skip
  show wpAny _ _ (updateSeq l (fun xs => xs.extract 0 ((a : Int)).toNat ++ new ++ xs.extract (max (a : Int) (c : Int)).toNat xs.size) >>= _) _ _ s
  rw [hmax, Int.toNat_natCast]
  refine wpAny_bind (wpAny_updateSeq (hz := Nat.le_trans (Nat.le_add_right _ _) hsz) (_hz' := hz') e rfl ?_)
  refine wpAny_bind (wpAny_letGo ?_)
  first
    | exact wpAny_bind (wpAny_pure (wpAny_pure ⟨.none, rfl, wpAny_pure h⟩))
    | exact wpAny_pure ⟨.none, rfl, wpAny_pure h⟩
end

section
variable {X : Cx}
/-- xs[a:c] = ys of another list, at the value level: sl is the slice object that was just made -/
theorem set_slice {pins : List (Addr × Obj)} {s : Shared} {σ : St} {H : Hp} {l b sl : Addr} {xs ys : List V} {a c : Int} {vl vu : Value} {Q : Unit → Shared → Prop} (I : Inv X pins σ H s)
    (hH : H l = some (.lst xs)) (hB : H b = some (.lst ys)) (hne : l ≠ b) (hs : s.heap.IsSliceOf sl vl vu .none) (ra : RelV (.int a) vl) (rc : RelV (.int c) vu) (h0 : 0 ≤ a) (hac : a ≤ c) (hc : c ≤ xs.length)
    (hz : xs.length + ys.length ≤ sizeLine) (h : ∀ s', Inv X pins σ (upd H l (.lst (xs.take a.toNat ++ ys ++ xs.drop c.toNat))) s' → Q () s') :
    wpAny (model X.prog X.w) X.A (setItem (.ref l) (.ref sl) (.ref b)) Q X.xe s := by
  obtain ⟨ta, rfl⟩ := ra
  obtain ⟨tc, rfl⟩ := rc
  obtain ⟨z, its, n, r, hl, e⟩ := I.lstM hH
  obtain ⟨z2, its2, n2, r2, hl2, e2⟩ := I.lstM hB
  obtain ⟨a', rfl⟩ := Int.eq_ofNat_of_zero_le h0
  obtain ⟨c', rfl⟩ := Int.eq_ofNat_of_zero_le (Int.le_trans h0 hac)
  simp only [Int.toNat_natCast] at h
  refine setItem_slice (a := a') (c := c') e e2 hne hs (.int _ _) (.int _ _) (by omega) (by rw [List.size_toArray]; omega) (by rw [List.size_toArray, List.size_toArray]; omega) (h _ ?_)
  refine I.lset (its' := its.take a' ++ its2 ++ its.drop c') (t' := s.toks) hH e ?_ (Vals.append (Vals.append (r.take _) r2) (r.drop _)) ?_
  · exact splice_eq its its2 a' c'
  · rw [List.length_append, List.length_append, List.length_take, List.length_drop]
    omega
end
end L2

namespace Att
open PySem PySem.W PySem.Calls PyProof.Rows

/-! ### the script -/
theorem ints_of_wellAll {P : Params} {h : Heap} : ∀ (ns : List Int) (vs : List Value), WellAll P h vs (ns.map WData.int) → IntsAre vs ns := by
  intro ns
  induction ns with
  | nil =>
    intro vs w
    rw [List.map_nil] at w
    cases w
    exact .nil
  | cons n ns ih =>
    intro vs w
    rw [List.map_cons] at w
    cases w with
    | cons a b =>
      cases a
      exact .cons _ _ (ih _ b)

theorem script_of {l : OpenLaw} {n : Nat} (hn : l.most = some n) {P : Params} {h : Heap} {args : List WData} {vals : List Value}
    (hpre : l.row.toRowW.claim.pre args = true) (hwl : WellAll P h vals args) :
    ∃ a vs ns, vals = [Value.ref a] ∧ args = [WData.list (ns.map WData.int)] ∧ h.get? a = some { cls := .type "list", data := .seq vs.toArray } ∧ IntsAre vs ns ∧ ns.length ≤ n := by
  have hsh : WShape.hasAll [] args [.list .int] = true := (pre_splitW hpre).1
  have hc : l.pre.holds [] { args := args } = true := (pre_splitW hpre).2
  obtain ⟨d, r, rfl, h1, h2⟩ := hasAllW_cons hsh
  obtain rfl := hasAllW_nil h2
  obtain ⟨xs, rfl, h3⟩ := hasW_list h1
  obtain ⟨ns, rfl⟩ := items_int h3
  have hlen : ns.length ≤ n := by
    unfold OpenLaw.pre at hc
    have h4 : (WTm.not (.lt (.lit (.int (n : Int))) (.len (.arg 0)))).holds [] { args := [.list (ns.map .int)] } = true := by
      have h4 := (holds_andW hc).1
      rw [hn] at h4
      exact h4
    have h5 := condW_of h4 (w_not (w_lt w_lit (w_len_list (w_arg rfl))))
    rw [List.length_map] at h5
    refine Nat.le_of_not_lt fun q => ?_
    have q' : (n : Int) < ((ns.length : Nat) : Int) := by omega
    first
      | (rw [decide_eq_true q'] at h5; exact absurd h5 (by decide))
      | (simp at h5; omega)
  cases hwl with
  | cons w1 w2 =>
    cases w2
    cases w1 with
    | list ho hall => exact ⟨_, _, ns, rfl, rfl, ho, ints_of_wellAll ns _ hall, hlen⟩

theorem post_true (l : OpenLaw) (args : List WData) : l.row.toRowW.claim.post args (.bool true) args = true :=
  postW_of (r := l.row.toRowW) (X := (true == true))
    (show WShape.has [] (.bool true) .bool = true by first | rfl | decide | simp [WShape.has, WShape.arms, WShape.armsAll])
    (show (WTm.eq .res (.lit (.bool true))).value [] { args := args, res := some (.bool true), after := args } = some (.bool (true == true)) from w_eq_bool (w_res rfl) w_lit) rfl

/-! ### the attachment: holds_open's last premise (the goal 'hc' behind k_head) from a wpAny of the law's body -/
theorem attach {l : OpenLaw} {n : Nat} {q : Program} {loose : List Str} {XP : (Str → Option Value) → Heap → Prop} {YP : World → Heap → Prop} {d : DefRec} {x : Str}
    (hn : l.most = some n) (hdf : d.params.defaults = [])
    (hbind : ∀ pm cd doc v : Value, bindArgs (docDef d.name d.params d.body d.scope pm cd doc) ⟨[v], []⟩ = pure [(x, v)])
    (hx : d.scope.names.lookup x = some .local ∨ d.scope.names.lookup x = some .cell)
    (hk : d.scope.kind = .function) (hco : d.scope.isCoroutine = false) (hgen : d.scope.isGenerator = false)
    (body : ∀ (w : World) (s₀ s₁ s : Shared) (mg mb : Str → Option Value) (fa : Addr) (o : Obj) (pm cd doc : Value) (a : Addr) (vs : List Value) (ns : List Int),
      Ground q loose [] XP w s₀ mg mb s₁.heap → YP w s₁.heap →
      s₁.heap.get? fa = some o → o.data = .func (docDef d.name d.params d.body d.scope pm cd doc) → s₁.heap.CodeRec cd d.name → mg d.name = some (.ref fa) →
      s₁.heap.get? a = some { cls := .type "list", data := .seq vs.toArray } → IntsAre vs ns → ns.length ≤ n →
      s.gens = #[] → s.os = s₁.os →
      Fr s₁.heap s₁.heap.objs.size s.heap (bindL (envOfC d.name d.scope s₁.heap.objs.size fa cd).kindOf [(x, .ref a)] fun _ => none) →
      Cl s₁.heap.objs.size (cellsFrom (s₁.heap.objs.size + 1) d.scope.names []) s.heap (bindC (envOfC d.name d.scope s₁.heap.objs.size fa cd).kindOf [(x, .ref a)] fun _ => none) →
      wpAny (model l.prog w) (callerA.deeper (envOfC d.name d.scope s₁.heap.objs.size fa cd)) (execs d.body (envOfC d.name d.scope s₁.heap.objs.size fa cd))
        (fun f s' => f = .ret (.bool true) ∧ OldK s₁.heap s'.heap ∧ s'.os = s₁.os ∧ AllBare s'.gens) (fun _ _ => False) s) :
    WalkO q loose XP YP l.row.toRowW d [] (fun f vs => PySem.call f vs) := by
  intro w s₀ s₁ mg mb G Y fa o pm cd doc dV kV ho hd hcd hD hmg hg args vals as hpre hlay hrd hwl hlo
  obtain rfl : dV = .none := Dflts.none hD hdf
  obtain rfl : kV = .none := Dflts.noKw hD
  obtain ⟨a, vs, ns, rfl, rfl, hobj, hints, hlen⟩ := script_of hn hpre hwl
  refine enter_call ?_
  refine call_cells_ret (o := o) (by rw [depth_caller]; decide) ho (fd_plain hd) G.T.nolimit hcd (hbind pm cd doc (.ref a)) (fun y hy => ?_) (fun h₁ tk F X => ?_) hco hgen hk
  · obtain rfl : y = (x, Value.ref a) := List.mem_singleton.mp hy
    rcases hx with e | e
    · exact .inl e
    · exact .inr ⟨e, cellsFrom_some _ _ _ (.inl e)⟩
  · refine wpAny_mono (body w s₀ s₁ { s₁ with heap := h₁, toks := tk } mg mb fa o pm cd doc a vs ns G Y ho (fd_plain hd) hcd hmg hobj hints hlen hg rfl F X) (fun f s' hq => ?_) (fun _ _ hq => hq)
    obtain ⟨rfl, h2, h3, h4⟩ := hq
    exact ⟨.inl ⟨.bool true, .bool true, [], rfl, fun _ => rfl, .bool true, post_true l _, fun _ => ⟨List.Pairwise.nil, fun _ hm => (nomatch hm)⟩⟩, h2, h3, h4⟩

/-- the same from a codeAny of the CALL (for a layer whose function contracts speak of calls) -/
theorem attach_call {l : OpenLaw} {n : Nat} {q : Program} {loose : List Str} {XP : (Str → Option Value) → Heap → Prop} {YP : World → Heap → Prop} {d : DefRec}
    (hn : l.most = some n) (hdf : d.params.defaults = [])
    (call : ∀ (w : World) (s₀ s₁ : Shared) (mg mb : Str → Option Value) (fa : Addr) (o : Obj) (pm cd doc : Value) (a : Addr) (vs : List Value) (ns : List Int),
      Ground q loose [] XP w s₀ mg mb s₁.heap → YP w s₁.heap →
      s₁.heap.get? fa = some o → o.data = .func (docDef d.name d.params d.body d.scope pm cd doc) → s₁.heap.CodeRec cd d.name → mg d.name = some (.ref fa) →
      s₁.heap.get? a = some { cls := .type "list", data := .seq vs.toArray } → IntsAre vs ns → ns.length ≤ n → s₁.gens = #[] →
      codeAny (model l.prog w) callerA (.call (.ref fa) ⟨[.ref a], []⟩) (fun r s' => r = .ok (.ret (.bool true)) ∧ OldK s₁.heap s'.heap ∧ s'.os = s₁.os ∧ AllBare s'.gens) s₁) :
    WalkO q loose XP YP l.row.toRowW d [] (fun f vs => PySem.call f vs) := by
  intro w s₀ s₁ mg mb G Y fa o pm cd doc dV kV ho hd hcd hD hmg hg args vals as hpre hlay hrd hwl hlo
  obtain rfl : dV = .none := Dflts.none hD hdf
  obtain rfl : kV = .none := Dflts.noKw hD
  obtain ⟨a, vs, ns, rfl, rfl, hobj, hints, hlen⟩ := script_of hn hpre hwl
  refine enter_call (codeAny_mono (call w s₀ s₁ mg mb fa o pm cd doc a vs ns G Y ho (fd_plain hd) hcd hmg hobj hints hlen hg) fun r s' hq => ?_)
  obtain ⟨rfl, h2, h3, h4⟩ := hq
  exact ⟨.inl ⟨.bool true, .bool true, [], rfl, fun _ => rfl, .bool true, post_true l _, fun _ => ⟨List.Pairwise.nil, fun _ hm => (nomatch hm)⟩⟩, h2, h3, h4⟩

/-- the same where the top left finished generators (o_head chose holds_openN): nothing may have changed at all and no generator may be left -/
theorem attachN {l : OpenLaw} {n : Nat} {q : Program} {loose : List Str} {XP : (Str → Option Value) → Heap → Prop} {YP : World → Heap → Prop} {d : DefRec} {x : Str}
    (hn : l.most = some n) (hdf : d.params.defaults = [])
    (hbind : ∀ pm cd doc v : Value, bindArgs (docDef d.name d.params d.body d.scope pm cd doc) ⟨[v], []⟩ = pure [(x, v)])
    (hx : d.scope.names.lookup x = some .local ∨ d.scope.names.lookup x = some .cell)
    (hk : d.scope.kind = .function) (hco : d.scope.isCoroutine = false) (hgen : d.scope.isGenerator = false)
    (body : ∀ (w : World) (s₀ s₁ s : Shared) (mg mb : Str → Option Value) (fa : Addr) (o : Obj) (pm cd doc : Value) (a : Addr) (vs : List Value) (ns : List Int),
      Ground q loose [] XP w s₀ mg mb s₁.heap → YP w s₁.heap →
      s₁.heap.get? fa = some o → o.data = .func (docDef d.name d.params d.body d.scope pm cd doc) → s₁.heap.CodeRec cd d.name → mg d.name = some (.ref fa) →
      s₁.heap.get? a = some { cls := .type "list", data := .seq vs.toArray } → IntsAre vs ns → ns.length ≤ n →
      s.gens = #[] → s.os = s₁.os →
      Fr s₁.heap s₁.heap.objs.size s.heap (bindL (envOfC d.name d.scope s₁.heap.objs.size fa cd).kindOf [(x, .ref a)] fun _ => none) →
      Cl s₁.heap.objs.size (cellsFrom (s₁.heap.objs.size + 1) d.scope.names []) s.heap (bindC (envOfC d.name d.scope s₁.heap.objs.size fa cd).kindOf [(x, .ref a)] fun _ => none) →
      wpAny (model l.prog w) (callerA.deeper (envOfC d.name d.scope s₁.heap.objs.size fa cd)) (execs d.body (envOfC d.name d.scope s₁.heap.objs.size fa cd))
        (fun f s' => f = .ret (.bool true) ∧ (∀ b o, s₁.heap.get? b = some o → s'.heap.get? b = some o) ∧ s'.os = s₁.os ∧ s'.gens = #[]) (fun _ _ => False) s) :
    WalkN q loose XP YP l.row.toRowW d [] (fun f vs => PySem.call f vs) := by
  intro w s₀ s₁ mg mb G Y fa o pm cd doc dV kV ho hd hcd hD hmg hg args vals as hpre hlay hrd hwl hlo
  obtain rfl : dV = .none := Dflts.none hD hdf
  obtain rfl : kV = .none := Dflts.noKw hD
  obtain ⟨a, vs, ns, rfl, rfl, hobj, hints, hlen⟩ := script_of hn hpre hwl
  refine enter_callW ?_
  refine call_cells_ret (o := o) (by rw [depth_caller]; decide) ho (fd_plain hd) G.T.nolimit hcd (hbind pm cd doc (.ref a)) (fun y hy => ?_) (fun h₁ tk F X => ?_) hco hgen hk
  · obtain rfl : y = (x, Value.ref a) := List.mem_singleton.mp hy
    rcases hx with e | e
    · exact .inl e
    · exact .inr ⟨e, cellsFrom_some _ _ _ (.inl e)⟩
  · refine wpAny_mono (body w s₀ s₁ { s₁ with heap := h₁, toks := tk } mg mb fa o pm cd doc a vs ns G Y ho (fd_plain hd) hcd hmg hobj hints hlen hg rfl F X) (fun f s' hq => ?_) (fun _ _ hq => hq)
    obtain ⟨rfl, h2, h3, h4⟩ := hq
    exact ⟨.inl ⟨.bool true, .bool true, [], rfl, fun _ => rfl, .bool true, post_true l _, fun _ => ⟨List.Pairwise.nil, fun _ hm => (nomatch hm)⟩⟩, h2, h3, h4⟩

/-! ### rules over ANY heap (no ledger) from facts about the written part K: the library's own take a ledger (News) for what they write -/
section
variable {prog : Program} {w : World} {A : Around} {E : Value → Shared → Prop} {s : Shared} {K : Frag}

/-- a def of the module, or a method (qual 'C.m'), entered: the frame is the next address; cells behind it -/
theorem call_fn {R : Result → Shared → Prop} {name qual : Str} {params : Arguments} {body : List Stmt} {scope : Scope} {dV kV doc pm cdv ct oc : Value} {an od : Option Addr} {osl : Array (Option Value)} {f : Addr} {args : Args} {binds : List (Str × Value)}
    (X : K.In s.heap) (hlim : s.heap.NoLimit) (ho : K.lookup f = some ⟨oc, od, .func (fnOf name qual params body scope dV kV doc pm an cdv ct), osl⟩) (hcd : codeIn K cdv qual = true) (hroom : A.depth < recursionLimit)
    (hbind : BindsTo s (fnOf name qual params body scope dV kV doc pm an cdv ct) args binds)
    (hkind : (binds.all fun y => scope.names.lookup y.1 == some .local || scope.names.lookup y.1 == some .cell) = true)
    (h : ∀ s₁, InCallC s s.heap.objs.size (bindL (envOfC qual scope s.heap.objs.size f cdv).kindOf binds fun _ => none) (cellsFrom (s.heap.objs.size + 1) scope.names [])
        (bindC (envOfC qual scope s.heap.objs.size f cdv).kindOf binds fun _ => none) s₁ →
      wpAny (model prog w) (A.deeper (envOfC qual scope s.heap.objs.size f cdv)) (execs body (envOfC qual scope s.heap.objs.size f cdv))
        (fun fl s' => R (.ok (.ret (match fl with | .ret v => v | _ => .none))) s')
        (fun e s' => wpAny (model prog w) (A.deeper (envOfC qual scope s.heap.objs.size f cdv)) (leaving (envOfC qual scope s.heap.objs.size f cdv) e) (fun _ s'' => R (.error e) s'') (fun e' s'' => R (.error e') s'') s') s₁)
    (hco : scope.isCoroutine = false) (hgen : scope.isGenerator = false) (hk : scope.kind = .function) : codeAny (model prog w) A (.call (.ref f) args) R s := by
  refine codeAny_call_function hroom (X _ _ ho) rfl hco hgen rfl (codeRec_of X hcd) (hbind _ _ _ _ ?_)
  refine wpAny_newFunctionEnv_cells hk (kindsX hkind _) fun env he s₁ x => ?_
  subst he
  exact ⟨hlim.keeps x.toInCall.keep, codeAny_func (h s₁ x)⟩

/-- C(..): dict at size, instance at size + 1, then __init__ -/
theorem make_obj {R : Result → Shared → Prop} {C fI : Addr} {rest : List Value} {kw : List (Str × Value)}
    (X : K.In s.heap) (hm : makesIn K C = true) (hi : findIn K (.ref C) "__init__" = some (some (.ref fI))) (hf : isFn K (.ref fI) = true)
    (h : codeAny (model prog w) (A.under (.builtin "type.__call__" ⟨.ref C :: rest, kw⟩)) (.call (.ref fI) ⟨.ref (s.heap.objs.size + 1) :: rest, kw⟩) (InitBack (s.heap.objs.size + 1) R)
      { s with heap := (s.heap.push emptyDict).push (instObj C s.heap.objs.size) }) : codeAny (model prog w) A (.call (.ref C) ⟨rest, kw⟩) R s := by
  obtain ⟨hh, g, d, t, os⟩ := s
  exact make_core (makes_of X hm) (looks_findIn X hi) (fun self => bind_fn X self (beq_iff_eq.mp hf)) (.inl rfl) h

/-- x.name where the instance's dict holds the name and the class does not -/
theorem get_field {x C : Addr} {ox : Obj} {es : List DictEntry} {n : Nat} {name : Str} {expr : Bool} {v : Value} {Q : Value → Shared → Prop}
    (X : K.In s.heap) (I : PySem.W.InstAt s.heap x ox C (some (dictOf es n))) (hg : plainGet K C name = true) (hh : hasDictIn K C = true) (ha : findIn K (.ref C) name = some none)
    (hl : getL name es = some (some v)) (hv : handedIn v = true) (h : Q v { s with toks := s.toks + 1 }) : wpAny (model prog w) A (getAttr (.ref x) name expr) Q E s :=
  get_value X I (plainGet_of hg).1 (findObj_own hh ha rfl hl) hv h

/-- x.m(..): the method found in the class -/
theorem get_method {x C f : Addr} {ox : Obj} {es : List DictEntry} {n : Nat} {name : Str} {pl : Sem Bool} {Q : Value × List Value → Shared → Prop}
    (X : K.In s.heap) (I : PySem.W.InstAt s.heap x ox C (some (dictOf es n))) (hg : plainGet K C name = true) (hf : findIn K (.ref C) name = some (some (.ref f))) (ht : isFn K (.ref f) = true)
    (hl : getL name es = some none) (h : Q (.ref f, [.ref x]) s) : wpAny (model prog w) A (getMethod (.ref x) name pl) Q E s :=
  method_fn X I (plainGet_of hg).1 (plainGet_of hg).2 hf (beq_iff_eq.mp ht) (by show (lookIn name (dictOf es n)).map _ = _; rw [lookIn_dict, hl]; rfl) h

/-! the whole heap as the ledger: makes every rule that writes through a ledger a rule over any heap -/
def noObjs (h : Heap) : Heap := { h with objs := #[] }
theorem noObjs_get (h : Heap) (b : Addr) : (noObjs h).get? b = none := by
  cases e : (noObjs h).get? b with
  | none => rfl
  | some o => exact absurd (Heap.lt_size e) (Nat.not_lt_zero _)
def ledger (h : Heap) (L d : Addr) : List (Addr × Obj) := (List.range h.objs.size).filterMap fun a => if a = L ∨ a = d then none else (h.get? a).map fun o => (a, o)
theorem mem_ledger {h : Heap} {L d a : Addr} {o : Obj} : (a, o) ∈ ledger h L d ↔ a ≠ L ∧ a ≠ d ∧ h.get? a = some o := by
  unfold ledger
  rw [List.mem_filterMap]
  constructor
  · rintro ⟨b, _, e⟩
    split at e
    · cases e
    · rename_i hb
      obtain ⟨o', ho, e'⟩ := Option.map_eq_some_iff.mp e
      cases e'
      exact ⟨fun q => hb (.inl q), fun q => hb (.inr q), ho⟩
  · rintro ⟨n1, n2, ho⟩
    refine ⟨a, List.mem_range.mpr (Heap.lt_size ho), ?_⟩
    rw [if_neg (show ¬ (a = L ∨ a = d) from fun q => q.elim n1 n2), ho] <;> rfl
theorem news_ledger {h : Heap} {L d : Addr} {od : Obj} (hne : d ≠ L) (ho : h.get? d = some od) : News (noObjs h) L h ([] ++ (d, od) :: ledger h L d) := by
  rintro ⟨a, o⟩ hp
  rcases List.mem_cons.mp hp with e | hp
  · cases e
    exact ⟨ho, hne, noObjs_get _ _⟩
  · obtain ⟨n1, n2, e⟩ := mem_ledger.mp hp
    exact ⟨e, n1, noObjs_get _ _⟩
theorem fr_all {h : Heap} {L : Addr} {m : Str → Option Value} (n : h.Ns L m) : Fr (noObjs h) L h m :=
  ⟨n, fun b o e => (by rw [noObjs_get] at e; cases e), Nat.zero_le _⟩
/-- Upd of the head entry (for append_K, setItem_K ..) -/
theorem upd_ledger {h : Heap} {L d : Addr} {o o' : Obj} : Upd d o o' ((d, o) :: ledger h L d) ((d, o') :: ledger h L d) :=
  .head fun ⟨_, _⟩ hp => (mem_ledger.mp hp).2.1

/-- x.name = v over any heap: L is any namespace of the heap (the frame's, say): its map stays, its object is not told; all else but the dict stays -/
theorem set_field {x C dx L : Addr} {ox : Obj} {m : Str → Option Value} {es es' : List DictEntry} {n n' : Nat} {name : Str} {v : Value} {Q : Unit → Shared → Prop}
    (X : K.In s.heap) (I : PySem.W.InstAt s.heap x ox C (some (dictOf es n))) (hd : ox.dict = some dx) (hL : s.heap.Ns L m) (hne : dx ≠ L)
    (hs : findIn K (.ref C) "__setattr__" = some (some (.builtin "object.__setattr__"))) (hp : plainOver K C = true) (ht : takerIn K C name = some none) (hh : hasDictIn K C = true) (hl : (getL name es).isSome = true)
    (e : (putL name (PyData.keyHash w.params name) (.str name (s.toks + 1)) v es, putN name es n) = (es', n')) (hz : es'.length ≤ 1000)
    (h : ∀ h' : Heap, h'.Ns L m → h'.get? dx = some (dictOf es' n') → (∀ b o, b ≠ dx → b ≠ L → s.heap.get? b = some o → h'.get? b = some o) → Q () { s with heap := h', toks := s.toks + 2 }) :
    wpAny (model prog w) A (setAttr (.ref x) name v) Q E s := by
  obtain ⟨e1, e2⟩ := Prod.mk.inj e
  have hdx : s.heap.get? dx = some (dictOf es n) := by
    have := I.dict
    rw [hd] at this
    exact this
  refine set_plain X I hs (osa_dict (s := { s with toks := s.toks + 1 }) (h₀ := noObjs s.heap) (L := L) (m := m) (od := dictOf es n) (od' := dictOf es' n') (es := es') (n := n') (pre := []) (post := ledger s.heap L dx)
    (fr_all hL) (news_ledger hne hdx) X I hd hp ht hh hl (fun _ q => nomatch q) (fun ⟨_, _⟩ q => (mem_ledger.mp q).2.1) (by rw [putName_dict, e1, e2]) rfl hz fun h' F' N' => ?_)
  exact h h' F'.ns (N'.get (List.Mem.head _)) fun b o n1 n2 ho => N'.get (List.Mem.tail _ (mem_ledger.mpr ⟨n2, n1, ho⟩))
end
end Att

namespace L2
open PySem PySem.Spec PyProof.Rows

theorem vals_ints : ∀ {vs : List Value} {ns : List Int}, IntsAre vs ns → Vals (ns.map V.int) vs
  | _, _, .nil => .nil
  | _, _, .cons n t h => .cons ⟨t, rfl⟩ (vals_ints h)

/-- nothing is tracked but the script, known to the object (or it is an object of the module) -/
def Only (H : Hp) : Prop := ∀ b, H b = none ∨ ∃ o xs, H b = some (.frz o (.lst xs))

/-- THE HEAD: the law's promise, at the heap behind the top. F, the promise of the law's def, may use that base is part of the heap (so K.In base, base.Ns mainGlobals mg stand in Mod) -/
theorem law_call {P : Program} {w : World} {K : PySem.W.Frag} {mg mb : Str → Option Value} {CX : CXT} {k : Nat} {fa a : Addr} {fd : FuncData} {x : Str} {sp : Sp} {s₁ : Shared} {vs : List Value} {ns : List Int}
    (KX : K.In s₁.heap) (hns : s₁.heap.Ns mainGlobals mg) (hb : s₁.heap.Ns builtinsNs mb) (hbb : ∀ x : Str, x ≠ "__name__" → mb x = bootBuiltins x) (hlim : s₁.heap.NoLimit) (hdig : s₁.heap.NoDigits) (hg : s₁.gens = #[])
    (ha : s₁.heap.get? a = some { cls := .type "list", data := .seq vs.toArray }) (hi : IntsAre vs ns) (hl : ns.length ≤ sizeLine) (hr : Room k callerA)
    (F : ∀ base : Heap, K.In base → base.Ns mainGlobals mg → FnOk P w K mg base CX k fa fd [x] sp) (hbind : ∀ (s : Shared) (u : Value), BindsTo s fd ⟨[u], []⟩ [(x, u)])
    (hsp : ∀ H : Hp, Only H → SqL K H a (ns.map V.int) → sp [.ref a] H (fun v _ => v = .bl true) fun _ _ _ => False)
    (hCX : ∀ H e s', CX [] H s₁ (fun _ _ _ => False) e s' → False) :
    codeAny (model P w) callerA (.call (.ref fa) ⟨[.ref a], []⟩) (fun r s' => r = .ok (.ret (.bool true)) ∧ OldK s₁.heap s'.heap ∧ s'.os = s₁.os ∧ AllBare s'.gens) s₁ := by
  have rv := vals_ints hi
  have lenV := hi.length
  -- from an abstract heap in which nothing but the script may be tracked
  have core : ∀ H : Hp, Only H → SqL K H a (ns.map V.int) → HOk P w H s₁.heap → (∀ b, H b ≠ none → b = a) → (H a ≠ none → K.lookup a = none) →
      codeAny (model P w) callerA (.call (.ref fa) ⟨[.ref a], []⟩) (fun r s' => r = .ok (.ret (.bool true)) ∧ OldK s₁.heap s'.heap ∧ s'.os = s₁.os ∧ AllBare s'.gens) s₁ := by
    intro H hO hS hok hA hK
    have base_of : ∀ {b : Addr} {o : Obj}, s₁.heap.get? b = some o → H b = none → (hidT s₁.heap H).get? b = some o := fun e n => hidT_get e n
    have noA : ∀ {b : Addr} {o : Obj} {es : Array DictEntry} {ep : Nat}, s₁.heap.get? b = some o → o.data = .dict es ep → H b = none := fun {b o es ep} e d => by
      cases q : H b with
      | none => rfl
      | some u =>
        have e' : b = a := hA b (by rw [q]; simp)
        subst e'
        rw [ha] at e; cases e
        have d' : Data.seq vs.toArray _ = Data.dict es ep := d
        cases d'
    have nsK : ∀ {b : Addr} {m : Str → Option Value}, s₁.heap.Ns b m → (hidT s₁.heap H).Ns b m := fun {b m} ⟨o, es, ep, e, d, r⟩ => ⟨o, es, ep, base_of e (noA e d), d, r⟩
    have hKb : K.In (hidT s₁.heap H) := fun b o e => base_of (KX b o e) (by
      cases q : H b with
      | none => rfl
      | some u =>
        have e' : b = a := hA b (by rw [q]; simp)
        subst e'
        rw [hK (by rw [q]; simp)] at e; cases e)
    have hM : Mod K mg (hidT s₁.heap H) := ⟨hKb, nsK hns, ⟨mb, nsK hb, hbb⟩, (let ⟨mc, h1, h2⟩ := hlim; ⟨mc, nsK h1, h2⟩), (let ⟨mc, h1, h2⟩ := hdig; ⟨mc, nsK h1, h2⟩)⟩
    have e0 : Env0 P w K mg (hidT s₁.heap H) callerA [] s₁ H := ⟨rfl, hM, fun b o e => of_hidT e, Nat.le_of_eq (hidT_size _ _), trivial, fun b hb => absurd (show b ∈ ([] : List Addr) from hb) (by simp), hok, .of_eq hg⟩
    refine codeAny_mono ((F _ hKb (nsK hns)).run callerA [] s₁ H ⟨[.ref a], []⟩ [.ref a] [.ref a] _ _ hr e0 (hbind s₁ (.ref a)) (.cons rfl .nil) (hsp H hO hS)) fun r s' h => ?_
    cases r with
    | error e => exact (hCX H e s' h).elim
    | ok fl =>
      cases fl with
      | next => exact False.elim h
      | brk => exact False.elim h
      | cont => exact False.elim h
      | ret u =>
        obtain ⟨v, H', os, bare, un, hok', r', q⟩ := h
        have q' : v = .bl true := q
        subst q'
        obtain rfl : u = Value.bool true := r'
        refine ⟨rfl, OldK.of_keep fun b o e => ?_, os, bare⟩
        cases q : H b with
        | none => exact un.keep b o e q (by intro z; exact absurd (show b ∈ ([] : List Addr) from z) (by simp)) (by simp)
        | some u =>
          rcases hO b with z | ⟨ob, xs, z⟩
          · rw [q] at z; cases z
          · have z2 := un.frzs b ob _ z
            obtain ⟨e1, _⟩ := hok b _ z
            obtain ⟨e2, _⟩ := hok' b _ z2
            rw [e] at e1; cases e1
            exact e2
  cases hk : K.lookup a with
  | some o =>
    -- the script is one of the module's own objects
    have e := KX a o hk
    rw [ha] at e
    cases e
    refine core (fun _ => none) (fun _ => .inl rfl) (.inr ⟨_, vs.toArray, _, hk, rfl, rfl, rfl, by rw [List.size_toArray, lenV]; exact hl, by simpa using rv⟩) (fun b u z => by have z' : (none : Option HO) = some u := z; cases z') (fun b z => absurd rfl z) fun z => absurd rfl z
  | none =>
    refine core (fun b => if b = a then some (.frz { cls := .type "list", data := .seq vs.toArray } (.lst (ns.map V.int))) else none) (fun b => ?_) (.inl (.inr ⟨{ cls := .type "list", data := .seq vs.toArray }, if_pos rfl⟩)) (fun b u z => ?_) (fun b z => ?_) fun _ => hk
    · by_cases hb : b = a
      · exact .inr ⟨_, _, if_pos hb⟩
      · exact .inl (if_neg hb)
    · by_cases hb : b = a
      · have z' := (if_pos hb).symm.trans z
        cases z'
        subst hb
        exact ⟨ha, by rw [List.length_map]; exact hl, vs, _, rv, ha⟩
      · have z' := (if_neg hb).symm.trans z
        cases z'
    · by_cases hb : b = a
      · exact hb
      · exact absurd (if_neg hb) z
end L2

namespace L2
open PySem PySem.Spec PyProof.Rows

abbrev KOf {K : PySem.W.Frag} {h : Heap} (_ : K.In h) : PySem.W.Frag := K

/-- the goal that k_head leaves (case hc), from the law's promise. F gives the function object fd (K's own) once, then the promise over every base -/
theorem walk_of {l : PySem.W.OpenLaw} {n k : Nat} {q : Program} {loose : List Str} {XP : (Str → Option Value) → Heap → Prop} {YP : World → Heap → Prop} {d : DefRec} {K : Params → PySem.W.Frag} {CX : World → CXT} {sp : World → Sp} {x : Str}
    (hn : l.most = some n) (hn2 : n ≤ sizeLine) (hdf : d.params.defaults = []) (hr : Room k callerA)
    (hY : ∀ (w : World) (h : Heap), YP w h → (K w.params).In h)
    (F : ∀ (w : World) (mg : Str → Option Value) (fa : Addr) (h : Heap), (K w.params).In h → h.Ns mainGlobals mg → mg d.name = some (.ref fa) →
      ∃ fd : FuncData, (∀ (s : Shared) (u : Value), BindsTo s fd ⟨[u], []⟩ [(x, u)]) ∧
        ∀ base : Heap, (K w.params).In base → base.Ns mainGlobals mg → FnOk l.prog w (K w.params) mg base (CX w) k fa fd [x] (sp w))
    (hsp : ∀ (w : World) (H : Hp) (a : Addr) (ns : List Int), ns.length ≤ n → Only H → SqL (K w.params) H a (ns.map V.int) → sp w [.ref a] H (fun v _ => v = .bl true) fun _ _ _ => False)
    (hCX : ∀ (w : World) (H : Hp) (s : Shared) (e : Value) (s' : Shared), CX w [] H s (fun _ _ _ => False) e s' → False) :
    PySem.W.WalkO q loose XP YP l.row.toRowW d [] (fun f vs => PySem.call f vs) := by
  refine Att.attach_call hn hdf fun w s₀ s₁ mg mb fa o pm cd doc a vs ns G Y ho hd hcd hmg hobj hints hlen hg => ?_
  have KX := hY w _ Y
  obtain ⟨fd, hb, hF⟩ := F w mg fa _ KX G.T.g hmg
  exact law_call KX G.T.g G.T.b G.T.builtins G.T.nolimit G.T.nodigits hg hobj hints (Nat.le_trans hlen hn2) hr hF hb (fun H hO hS => hsp w H a ns hlen hO hS) fun H e s' => hCX w H s₁ e s'
/-- the same where the promise hangs on the written part alone: (sp := My.sp_law), no hole under a binder -/
theorem walk_ofK {l : PySem.W.OpenLaw} {n k : Nat} {q : Program} {loose : List Str} {XP : (Str → Option Value) → Heap → Prop} {YP : World → Heap → Prop} {d : DefRec} {K : Params → PySem.W.Frag} {CX : CXT} {sp : PySem.W.Frag → Sp} {x : Str}
    (hn : l.most = some n) (hn2 : n ≤ sizeLine) (hdf : d.params.defaults = []) (hr : Room k callerA)
    (hY : ∀ (w : World) (h : Heap), YP w h → (K w.params).In h)
    (F : ∀ (w : World) (mg : Str → Option Value) (fa : Addr) (h : Heap), (K w.params).In h → h.Ns mainGlobals mg → mg d.name = some (.ref fa) →
      ∃ fd : FuncData, (∀ (s : Shared) (u : Value), BindsTo s fd ⟨[u], []⟩ [(x, u)]) ∧
        ∀ base : Heap, (K w.params).In base → base.Ns mainGlobals mg → FnOk l.prog w (K w.params) mg base CX k fa fd [x] (sp (K w.params)))
    (hsp : ∀ (K : PySem.W.Frag) (H : Hp) (a : Addr) (ns : List Int), ns.length ≤ n → Only H → SqL K H a (ns.map V.int) → sp K [.ref a] H (fun v _ => v = .bl true) fun _ _ _ => False)
    (hCX : ∀ (H : Hp) (s : Shared) (e : Value) (s' : Shared), CX [] H s (fun _ _ _ => False) e s' → False) :
    PySem.W.WalkO q loose XP YP l.row.toRowW d [] (fun f vs => PySem.call f vs) :=
  walk_of (K := K) (CX := fun _ => CX) (sp := fun w => sp (K w.params)) hn hn2 hdf hr hY F (fun w H a ns h1 h2 h3 => hsp (K w.params) H a ns h1 h2 h3) fun _ H s e s' => hCX H s e s'
end L2

/- THE LAST THEOREM (shape; LID, My.* are yours):
   My.Adr: a structure of the addresses that your layer names (classes, functions); My.Txt K t: a structure (Prop) of the equations over K;
   My.txt_mk : {K} {implicit addresses ..} (e1 : nsIn K mainGlobals "law" = some (some (.ref f))) (e2 : K.lookup f = some ⟨oc, od, .func (fnOf "law" "law" params body scope dV kV doc pm an cdv ct), sl⟩) (e3 : codeIn K cdv "law" = true) .. : ∃ t, My.Txt K t

set_option maxRecDepth 100000 in
set_option maxHeartbeats 0 in
theorem PySem.Challenge.cw_LID_holds : PySem.Challenge.rw_LID.Holds := by
  w_on; o_law; k_head; (case hw => w_witness2)
  k_fill
  refine L2.walk_of (l := PySem.Challenge.rw_LID) (n := 63) (k := 40) (x := "script") (CX := fun w => ..) (sp := fun _ => My.sp_law) rfl (by decide) rfl ⟨rfl, by decide, by decide⟩ (fun w h Y => PySem.W.kIn_of Y) ?F ?S ?C
  case F =>
    intro w mg fa h KX G hmg
    have T : ∃ t, My.Txt (L2.KOf KX) t := by
      dsimp only [L2.KOf]                          -- K must stand as «<heap const> w.params» for k_is
      refine' My.txt_mk ?e1 ?e2 ?e3 ..
      (case e1 => PySem.W.k_is)                    -- in the order: a name -> its address -> its object -> its parts
      (case e2 => PySem.W.k_is)
      ..
    obtain ⟨t, T⟩ := T
    have e0 := hmg.symm.trans (PySem.W.mg_of KX G T.law)
    cases e0                                       -- fa is the law's own address
    exact ⟨_, fun s u => .of_eq rfl, fun base kb nb => My.law_fn T kb nb⟩     -- if «.of_eq rfl» comes too early: refine' ⟨_, ?b, fun base kb nb => My.law_fn T kb nb⟩; exact fun s u => .of_eq rfl
  case S => exact fun w H a ns hl hO hS => ..
  case C => exact ..
(the tactic k_is has no namespace: write k_is) -/

/-! SHORT WORDS over the layer: a def of the text, its body, what a loop and a test want. -/
namespace L2
open PySem PySem.Spec PyProof.Rows

/-! ### the text by places -/
/-- the j-th statement of a class's body -/
def inClass (s : Stmt) (j : Nat) : Stmt := match s with
  | .ClassDef _ _ _ body _ _ _ _ _ _ _ => body.getD j (.Pass ⟨0, 0, 0, 0⟩)
  | _ => .Pass ⟨0, 0, 0, 0⟩
def defArgs (s : Stmt) : Arguments := match s with
  | .FunctionDef _ a _ _ _ _ _ _ _ _ => a
  | _ => { posonlyargs := [], args := [], vararg := none, kwonlyargs := [], kw_defaults := [], kwarg := none, defaults := [] }
def defBody (s : Stmt) : List Stmt := match s with
  | .FunctionDef _ _ b _ _ _ _ _ _ _ => b
  | _ => []
def defScope (s : Stmt) : Scope := match s with
  | .FunctionDef _ _ _ _ _ _ sc _ _ _ => sc
  | _ => { kind := .function, names := [], isGenerator := false, isCoroutine := false }

/-! ### no exception leaves a def -/
abbrev CX0 : CXT := fun _ _ _ _ _ _ => False
abbrev E0 : XK := fun _ _ _ => False
theorem pass0 {X : Cx} : Passes CX0 X E0 := fun _ _ _ _ _ _ _ h => h.elim

/-! ### a def (or method) of the text as it stands behind the top -/
structure Fun (K : PySem.W.Frag) (x qual : Str) (st : Stmt) (f : Addr) (fd : FuncData) : Prop where
  ex : ∃ (oc : Value) (od : Option Addr) (kV doc pm : Value) (an : Option Addr) (cdv ct : Value) (osl : Array (Option Value)),
    fd = PySem.W.fnOf x qual (defArgs st) (defBody st) (defScope st) .none kV doc pm an cdv ct ∧ K.lookup f = some ⟨oc, od, .func fd, osl⟩ ∧ PySem.W.codeIn K cdv qual = true
  kp : PySem.W.keepIn K (.ref f) = true
section
variable {P : Program} {w : World} {K : PySem.W.Frag} {mg : Str → Option Value} {base : Heap}
/-- THE RULE for a def: its body as a term of rules, and the reading of that term -/
theorem Fun.ok {x qual : Str} {st : Stmt} {f : Addr} {fd : FuncData} {N ps : List Str} {k : Nat} {sp : Sp} (F : Fun K x qual st f fd) (S : FnScope N ps (defScope st)) (len : ∀ vs H Q E, sp vs H Q E → vs.length = ps.length)
    (hbody : ∀ (cdv : Value) (A : Around) (outer : List Env) (s : Shared) (H : Hp) (vs : List V) (Q : VK) (E : XK), Room k (A.deeper (envOfC qual (defScope st) s.heap.objs.size f cdv)) → sp vs H Q E →
      ∃ t, PSs (cxOf CX0 P w K mg base N qual (defScope st) f cdv A outer s H E).nox (defBody st) t ∧ t { nx := fun _ H' => Q .non H', rt := Q } (start N vs) H) : FnOk P w K mg base CX0 (k + 1) f fd ps sp := by
  obtain ⟨oc, od, kV, doc, pm, an, cdv, ct, osl, rfl, lk, hcd⟩ := F.ex
  refine fn_of lk hcd S len fun A outer s H vs Q E hr hsp => ?_
  obtain ⟨t, h, q⟩ := hbody cdv A outer s H vs Q E hr hsp
  exact ⟨t, h.nox, q⟩
/-- how its arguments bind (no defaults): h is «fun _ _ _ _ _ _ us hl => match us, hl with | [_, _], _ => rfl», one _ a parameter -/
theorem Fun.binds {x qual : Str} {st : Stmt} {f : Addr} {fd : FuncData} {ps : List Str} (F : Fun K x qual st f fd)
    (h : ∀ (kV doc pm : Value) (an : Option Addr) (cdv ct : Value) (us : List Value), us.length = ps.length → bindArgs (PySem.W.fnOf x qual (defArgs st) (defBody st) (defScope st) .none kV doc pm an cdv ct) ⟨us, []⟩ = pure (ps.zip us)) : Binds K fd ps [] := by
  obtain ⟨oc, od, kV, doc, pm, an, cdv, ct, osl, rfl, lk, hcd⟩ := F.ex
  exact .all (h kV doc pm an cdv ct)
theorem fun_mk {x qual : Str} {st : Stmt} {f : Addr} {oc : Value} {od an : Option Addr} {osl : Array (Option Value)} {kV doc pm cdv ct : Value} (l : K.lookup f = some ⟨oc, od, .func (PySem.W.fnOf x qual (defArgs st) (defBody st) (defScope st) .none kV doc pm an cdv ct), osl⟩)
    (c : PySem.W.codeIn K cdv qual = true) (k : PySem.W.keepIn K (.ref f) = true) : Fun K x qual st f (PySem.W.fnOf x qual (defArgs st) (defBody st) (defScope st) .none kV doc pm an cdv ct) := ⟨⟨oc, od, kV, doc, pm, an, cdv, ct, osl, rfl, l, c⟩, k⟩
end
theorem hu_of {A : Around} {k : Nat} (hr : Room k A) : A.units + 1 < cLine := Nat.lt_of_le_of_lt (Nat.add_le_add_left (by decide : 1 ≤ 64) _) hr.units
theorem small1000 {n : Nat} (h : n ≤ 1000) : n < sizeLine := Nat.lt_of_le_of_lt h (by decide)

/-! ### expressions in short: the name that stands in the i-th slot -/
section
variable {X : Cx}
theorem pv (i : Nat) {x : Str} {pos : Pos} (hN : X.N[i]? = some x := by rfl) (hv : Vis X.env.scope x := by first | exact Or.inl rfl | exact Or.inr (Or.inl rfl) | exact Or.inr (Or.inr rfl)) (hd : (x == ("__debug__" : Str)) = false := by decide)
    (hcd : (x == ("__classdict__" : Str)) = false := by decide) : PE X (.Name x pos) (tVar i) := pe_var hN hv hd hcd
end

/-! ### tests -/
theorem iteF {A B : Prop} (h : B) : if false = true then A else B := by
  rw [if_neg Bool.false_ne_true]
  exact h
theorem iteT {A B : Prop} (h : A) : if true = true then A else B := by
  rw [if_pos rfl]
  exact h
theorem ite2 {c A B : Prop} [Decidable c] (h1 : c → A) (h2 : ¬ c → B) : if c then A else B := by
  by_cases h : c
  · rw [if_pos h]
    exact h1 h
  · rw [if_neg h]
    exact h2 h
theorem iteNS {c A B : Prop} [Decidable c] (hc : c) (h : B) : if (!decide c) = true then A else B := by
  rw [decide_eq_true hc]
  exact iteF h

/-! ### heaps -/
/-- all that was tracked is as it was -/
def Same (H H' : Hp) : Prop := ∀ b o, H b = some o → H' b = some o
theorem Same.refl (H : Hp) : Same H H := fun _ _ h => h
theorem Same.trans {H H1 H2 : Hp} (a : Same H H1) (b : Same H1 H2) : Same H H2 := fun c o h => b c o (a c o h)
theorem Same.free {H H' : Hp} (e : Same H H') {l : Addr} (h : H' l = Option.none) : H l = Option.none := by
  cases q : H l with
  | none => rfl
  | some o =>
    rw [e l o q] at h
    cases h
theorem Same.seq {K : PySem.W.Frag} {H H' : Hp} {a : Addr} {xs : List V} (e : Same H H') (h : SqL K H a xs) : SqL K H' a xs := by
  rcases h with (h | ⟨o, h⟩) | h
  · exact .inl (.inl (e _ _ h))
  · exact .inl (.inr ⟨o, e _ _ h⟩)
  · exact .inr h

end L2

namespace Us
def G (a b : Int) : Int := ((Int.gcd a b : Nat) : Int)
def low (t b : Int) : Int × Int := (t / G t b, b / G t b)

theorem G_nonneg (a b : Int) : 0 ≤ G a b := Int.natCast_nonneg _
theorem G_pos {a b : Int} (h : 0 < b) : 0 < G a b := by
  unfold G
  have : 0 < Int.gcd a b := Int.gcd_pos_of_ne_zero_right a (by omega)
  omega
theorem G_pos_left {a b : Int} (h : 0 < a) : 0 < G a b := by
  unfold G
  have : 0 < Int.gcd a b := Int.gcd_pos_of_ne_zero_left b (by omega)
  omega
theorem G_dvd_left (a b : Int) : G a b ∣ a := Int.gcd_dvd_left ..
theorem G_dvd_right (a b : Int) : G a b ∣ b := Int.gcd_dvd_right ..
theorem G_zero {a : Int} (h : 0 ≤ a) : G a 0 = a := by
  unfold G
  rw [Int.gcd_zero_right]
  omega
/-- one turn of the loop -/
theorem G_turn (a b : Int) : G b (a % b) = G a b := by
  unfold G
  have h : a % b = a - b * (a / b) := by have := Int.emod_add_mul_ediv a b; omega
  rw [h, Int.gcd_sub_mul_left_right, Int.gcd_comm]
theorem G_le {a b : Int} (h : 0 < b) : G a b ≤ b := Int.le_of_dvd h (G_dvd_right a b)
theorem G_comm (a b : Int) : G a b = G b a := by unfold G; rw [Int.gcd_comm]

theorem low_snd_pos {t b : Int} (h : 0 < b) : 0 < (low t b).2 := by
  unfold low
  have h1 := G_pos (a := t) h
  have h2 := G_le (a := t) h
  exact Int.ediv_pos_of_pos_of_dvd h (Int.le_of_lt h1) (G_dvd_right t b)
theorem low_fst_nonneg {t b : Int} (h : 0 ≤ t) : 0 ≤ (low t b).1 := Int.ediv_nonneg h (G_nonneg _ _)
theorem low_fst_le {t b : Int} (h : 0 ≤ t) (hb : 0 < b) : (low t b).1 ≤ t := Int.ediv_le_self _ h
theorem low_snd_le {t b : Int} (hb : 0 < b) : (low t b).2 ≤ b := Int.ediv_le_self _ (Int.le_of_lt hb)
theorem low_mul_fst (t b : Int) : (low t b).1 * G t b = t := Int.ediv_mul_cancel (G_dvd_left t b)
theorem low_mul_snd (t b : Int) : (low t b).2 * G t b = b := Int.ediv_mul_cancel (G_dvd_right t b)
theorem low_cross {t b : Int} : (low t b).1 * b = t * (low t b).2 := by
  have h1 := low_mul_fst t b
  have h2 := low_mul_snd t b
  grind
theorem low_coprime {t b : Int} (h : 0 < b) : Int.gcd (low t b).1 (low t b).2 = 1 :=
  Int.gcd_ediv_gcd_ediv_gcd (Int.gcd_pos_of_ne_zero_right t (by omega))
theorem low_of_coprime {t b : Int} (h : Int.gcd t b = 1) : low t b = (t, b) := by
  unfold low G
  rw [h]
  simp
/-- lowest terms are one -/
theorem low_unique {a b c d : Int} (hb : 0 < b) (hd : 0 < d) (h : a * d = c * b) : low a b = low c d := by
  have g1 := G_pos (a := a) hb
  have g2 := G_pos (a := c) hd
  have e : G a b * d = G c d * b := by
    have x1 : Int.gcd (a * d) (b * d) = Int.gcd a b * d.natAbs := Int.gcd_mul_right ..
    have x2 : Int.gcd (c * b) (d * b) = Int.gcd c d * b.natAbs := Int.gcd_mul_right ..
    rw [h, Int.mul_comm b d] at x1
    have x3 : Int.gcd a b * d.natAbs = Int.gcd c d * b.natAbs := by omega
    have x4 := congrArg (fun n : Nat => (n : Int)) x3
    simp only [Int.natCast_mul] at x4
    unfold G
    have y1 : ((d.natAbs : Nat) : Int) = d := by omega
    have y2 : ((b.natAbs : Nat) : Int) = b := by omega
    rw [y1, y2] at x4
    exact x4
  have a1 := low_mul_fst a b
  have b1 := low_mul_snd a b
  have c1 := low_mul_fst c d
  have d1 := low_mul_snd c d
  have s2 : (low a b).2 = (low c d).2 := by
    have : ((low a b).2 - (low c d).2) * (G a b * G c d) = 0 := by grind
    rcases Int.mul_eq_zero.mp this with z | z
    · omega
    · exact absurd z (Int.ne_of_gt (Int.mul_pos g1 g2))
  have s1 : (low a b).1 = (low c d).1 := by
    have p2 := low_snd_pos (t := a) hb
    have : ((low a b).1 - (low c d).1) * (G a b * G c d * (low a b).2) = 0 := by grind
    rcases Int.mul_eq_zero.mp this with z | z
    · omega
    · exact absurd z (Int.ne_of_gt (Int.mul_pos (Int.mul_pos g1 g2) p2))
  exact Prod.ext s1 s2
theorem low_low {t b : Int} (h : 0 < b) : low (low t b).1 (low t b).2 = low t b := low_of_coprime (low_coprime h)

/-- joined's value -/
def joinM (a b c d : Int) : Int × Int :=
  let g := G b d
  let t := a * (d / g) + c * (b / g)
  let k := G t g
  (t / k, b / g * (d / k))
theorem joinM_eq {a b c d : Int} (hb : 0 < b) (hd : 0 < d) (hab : Int.gcd a b = 1) (hcd : Int.gcd c d = 1) : joinM a b c d = low (a * d + c * b) (b * d) := by
  unfold joinM
  have gp : 0 < G b d := G_pos hd
  obtain ⟨b', hb'⟩ := G_dvd_left b d
  obtain ⟨d', hd'⟩ := G_dvd_right b d
  have eb : b / G b d = b' := by rw [Int.ediv_eq_of_eq_mul_right (by omega) hb']
  have ed : d / G b d = d' := by rw [Int.ediv_eq_of_eq_mul_right (by omega) hd']
  dsimp only
  rw [eb, ed]
  generalize hgd : G b d = g at *
  have cop : Int.gcd b' d' = 1 := by
    have q := Int.gcd_ediv_gcd_ediv_gcd (i := b) (j := d) (Int.gcd_pos_of_ne_zero_right b (by omega))
    have e1 : b / ((Int.gcd b d : Nat) : Int) = b' := by rw [← eb, ← hgd]; rfl
    have e2 : d / ((Int.gcd b d : Nat) : Int) = d' := by rw [← ed, ← hgd]; rfl
    rw [e1, e2] at q
    exact q
  have b'p : 0 < b' := by
    rcases Int.lt_trichotomy 0 b' with z | z | z
    · exact z
    · rw [← z] at hb'; omega
    · exact absurd (Int.mul_neg_of_pos_of_neg gp z) (by omega)
  have d'p : 0 < d' := by
    rcases Int.lt_trichotomy 0 d' with z | z | z
    · exact z
    · rw [← z] at hd'; omega
    · exact absurd (Int.mul_neg_of_pos_of_neg gp z) (by omega)
  generalize ht : a * d' + c * b' = t
  have kp : 0 < G t g := G_pos gp
  obtain ⟨t', ht'⟩ := G_dvd_left t g
  obtain ⟨g', hg'⟩ := G_dvd_right t g
  have et : t / G t g = t' := by rw [Int.ediv_eq_of_eq_mul_right (by omega) ht']
  have eg : d / G t g = g' * d' := by
    rw [Int.ediv_eq_of_eq_mul_right (by omega) (show d = G t g * (g' * d') by rw [← Int.mul_assoc, ← hg']; exact hd')]
  rw [et, eg]
  generalize hk : G t g = k at *
  have g'p : 0 < g' := by
    rcases Int.lt_trichotomy 0 g' with z | z | z
    · exact z
    · rw [← z] at hg'; omega
    · exact absurd (Int.mul_neg_of_pos_of_neg kp z) (by omega)
  -- coprime parts
  have c1 : Int.gcd t' g' = 1 := by
    have q := Int.gcd_ediv_gcd_ediv_gcd (i := t) (j := g) (Int.gcd_pos_of_ne_zero_right t (by omega))
    have e1 : t / ((Int.gcd t g : Nat) : Int) = t' := by rw [← et, ← hk]; rfl
    have e2 : g / ((Int.gcd t g : Nat) : Int) = g' := by
      have : ((Int.gcd t g : Nat) : Int) = k := hk
      rw [this, Int.ediv_eq_of_eq_mul_right (by omega) hg']
    rw [e1, e2] at q
    exact q
  have sub1 : ∀ {x y z : Int}, Int.gcd x y = 1 → z ∣ x → Int.gcd z y = 1 := fun {x y z} h hz => by
    have := Int.gcd_dvd_gcd_of_dvd_left y hz
    rw [h] at this
    exact Nat.dvd_one.mp this
  have sub2 : ∀ {x y z : Int}, Int.gcd x y = 1 → z ∣ y → Int.gcd x z = 1 := fun {x y z} h hz => by
    have := Int.gcd_dvd_gcd_of_dvd_right x hz
    rw [h] at this
    exact Nat.dvd_one.mp this
  have c2 : Int.gcd t b' = 1 := by
    rw [← ht, Int.gcd_add_mul_right_left, Int.gcd_mul_right_left_of_gcd_eq_one (sub2 hab ⟨g, by rw [hb', Int.mul_comm]⟩), Int.gcd_comm]
    exact cop
  have c3 : Int.gcd t d' = 1 := by
    rw [← ht, Int.add_comm, Int.gcd_add_mul_right_left, Int.gcd_mul_right_left_of_gcd_eq_one (sub2 hcd ⟨g, by rw [hd', Int.mul_comm]⟩)]
    exact cop
  have t't : t' ∣ t := ⟨k, by rw [ht', Int.mul_comm]⟩
  have call : Int.gcd t' (b' * (g' * d')) = 1 := by
    rw [Int.gcd_mul_right_right_of_gcd_eq_one (sub1 c2 t't), Int.gcd_mul_right_right_of_gcd_eq_one c1]
    exact sub1 c3 t't
  rw [← low_of_coprime call]
  refine low_unique (Int.mul_pos b'p (Int.mul_pos g'p d'p)) (Int.mul_pos hb hd) ?_
  rw [hb', hd']
  have x1 : t = a * d' + c * b' := ht.symm
  grind
end Us
namespace Us
/-- a power of two, not opened -/
def P2 (n : Nat) : Int := 2 ^ n
theorem P2_pos (n : Nat) : 0 < P2 n := Int.pow_pos (by decide)
theorem P2_one (n : Nat) : 1 ≤ P2 n := P2_pos n
theorem P2_add (m n : Nat) : P2 (m + n) = P2 m * P2 n := Int.pow_add ..
theorem P2_succ (n : Nat) : P2 (n + 1) = 2 * P2 n := by
  unfold P2
  rw [Int.pow_succ, Int.mul_comm]
theorem P2_mono {m n : Nat} (h : m ≤ n) : P2 m ≤ P2 n := by
  obtain ⟨k, rfl⟩ := Nat.exists_eq_add_of_le h
  rw [P2_add]
  have h1 := P2_pos m
  have h2 := P2_one k
  have h3 : P2 m * 1 ≤ P2 m * P2 k := Int.mul_le_mul_of_nonneg_left h2 (Int.le_of_lt h1)
  omega
theorem P2_lit {j : Int} {n : Nat} (h : j ≤ 2 ^ 64) (hn : 64 ≤ n) : j ≤ P2 n := Int.le_trans h (P2_mono hn)
theorem P2_mul {x y : Int} {m n : Nat} (hx : 0 ≤ x) (hx' : x ≤ P2 m) (hy : 0 ≤ y) (hy' : y ≤ P2 n) : x * y ≤ P2 (m + n) := by
  rw [P2_add]
  exact Int.mul_le_mul hx' hy' hy (Int.le_of_lt (P2_pos m))
theorem P2_natAbs {x : Int} {n : Nat} (h1 : -P2 n ≤ x) (h2 : x ≤ P2 n) : x.natAbs < 2 ^ (n + 1) := by
  have e : ((2 ^ (n + 1) : Nat) : Int) = P2 (n + 1) := by unfold P2; simp
  have h3 := P2_succ n
  have h4 := P2_pos n
  have : ((x.natAbs : Nat) : Int) < ((2 ^ (n + 1) : Nat) : Int) := by rw [e]; omega
  exact Int.ofNat_lt.mp this
end Us
namespace Us
/-- the sum of the shares, not brought down: top and bottom -/
def tbStep (p : Int × Int) (s : Int) : Int × Int := (p.1 * s + p.2, p.2 * s)
def tb (xs : List Int) : Int × Int := xs.foldl tbStep (0, 1)
theorem tb_nil : tb [] = (0, 1) := rfl
theorem tb_snoc (xs : List Int) (s : Int) : tb (xs ++ [s]) = tbStep (tb xs) s := by unfold tb; rw [List.foldl_append]; rfl
def sumM (xs : List Int) : Int × Int := low (tb xs).1 (tb xs).2
theorem foldl_tb_good {m : Nat} : ∀ (xs : List Int) (n : Nat) (p : Int × Int), (∀ x ∈ xs, 0 < x ∧ x ≤ P2 m) → 0 ≤ p.1 → p.1 ≤ P2 ((m + 1) * n) → 0 < p.2 → p.2 ≤ P2 ((m + 1) * n) →
    0 ≤ (xs.foldl tbStep p).1 ∧ (xs.foldl tbStep p).1 ≤ P2 ((m + 1) * (n + xs.length)) ∧ 0 < (xs.foldl tbStep p).2 ∧ (xs.foldl tbStep p).2 ≤ P2 ((m + 1) * (n + xs.length))
  | [], n, p, _, h1, h2, h3, h4 => ⟨h1, by simpa using h2, h3, by simpa using h4⟩
  | x :: r, n, p, h, h1, h2, h3, h4 => by
    obtain ⟨hx, hx'⟩ := h x List.mem_cons_self
    have e1 := P2_mul h1 h2 (Int.le_of_lt hx) hx'
    have e2 := P2_mul (Int.le_of_lt h3) h4 (Int.le_of_lt hx) hx'
    have e3 : (m + 1) * (n + 1) = ((m + 1) * n + m) + 1 := by rw [Nat.mul_succ]; omega
    have e4 := P2_succ ((m + 1) * n + m)
    have e5 : P2 ((m + 1) * n) ≤ P2 ((m + 1) * n + m) := P2_mono (by omega)
    have g1 : 0 ≤ p.1 * x := Int.mul_nonneg h1 (Int.le_of_lt hx)
    have g2 : 0 < p.2 * x := Int.mul_pos h3 hx
    have g3 := P2_pos ((m + 1) * n + m)
    have q := foldl_tb_good r (n + 1) (tbStep p x) (fun y hy => h y (List.mem_cons_of_mem _ hy)) (by show 0 ≤ p.1 * x + p.2; omega) (by rw [e3, e4]; show p.1 * x + p.2 ≤ _; omega) g2 (by rw [e3, e4]; show p.2 * x ≤ _; omega)
    have e6 : n + 1 + r.length = n + (x :: r).length := by simp; omega
    rw [e6] at q
    exact q
theorem tb_good {m : Nat} {xs : List Int} (h : ∀ x ∈ xs, 0 < x ∧ x ≤ P2 m) : 0 ≤ (tb xs).1 ∧ (tb xs).1 ≤ P2 ((m + 1) * xs.length) ∧ 0 < (tb xs).2 ∧ (tb xs).2 ≤ P2 ((m + 1) * xs.length) := by
  have q := foldl_tb_good xs 0 (0, 1) h (by decide) (by simp [P2]) (by decide) (by simp [P2])
  rw [Nat.zero_add] at q
  exact q
/-- a share joined to a sum in lowest terms -/
theorem join_step {T B s : Int} (hB : 0 < B) (hs : 0 < s) : joinM (low T B).1 (low T B).2 1 s = low (T * s + B) (B * s) := by
  have hp := low_snd_pos (t := T) hB
  rw [joinM_eq hp hs (low_coprime hB) (by simp)]
  refine low_unique (Int.mul_pos hp hs) (Int.mul_pos hB hs) ?_
  have := low_cross (t := T) (b := B)
  grind
theorem low_nil : low 0 1 = (0, 1) := by decide
/-- a share parted -/
theorem part_sum {n : Int} (h : 0 < n) : sumM [n + 1, n * (n + 1)] = (1, n) := by
  unfold sumM tb
  show low ((0 * (n + 1) + 1) * (n * (n + 1)) + 1 * (n + 1)) (1 * (n + 1) * (n * (n + 1))) = (1, n)
  rw [← low_of_coprime (show Int.gcd 1 n = 1 by simp)]
  refine low_unique ?_ h ?_
  · have : 0 < n * (n + 1) := Int.mul_pos h (by omega)
    exact Int.mul_pos (by omega) this
  · grind
theorem join_low {a b c d : Int} (hb : 0 < b) (hd : 0 < d) : joinM (low a b).1 (low a b).2 (low c d).1 (low c d).2 = low (a * d + c * b) (b * d) := by
  have p := low_snd_pos (t := a) hb
  have q := low_snd_pos (t := c) hd
  rw [joinM_eq p q (low_coprime hb) (low_coprime hd)]
  refine low_unique (Int.mul_pos p q) (Int.mul_pos hb hd) ?_
  have x := low_cross (t := a) (b := b)
  have y := low_cross (t := c) (b := d)
  grind
theorem join_less {a b c d : Int} (hb : 0 < b) (hd : 0 < d) : joinM (low a b).1 (low a b).2 (-(low c d).1) (low c d).2 = low (a * d - c * b) (b * d) := by
  have p := low_snd_pos (t := a) hb
  have q := low_snd_pos (t := c) hd
  rw [joinM_eq p q (low_coprime hb) (by rw [Int.neg_gcd]; exact low_coprime hd)]
  refine low_unique (Int.mul_pos p q) (Int.mul_pos hb hd) ?_
  have x := low_cross (t := a) (b := b)
  have y := low_cross (t := c) (b := d)
  grind
/-- the one that is taken away is no greater: joined's top is nought or more -/
theorem less_low {a b c d : Int} (hb : 0 < b) (hd : 0 < d) (h : c * b ≤ a * d) : 0 ≤ (low a b).1 * ((low c d).2 / G (low a b).2 (low c d).2) + -(low c d).1 * ((low a b).2 / G (low a b).2 (low c d).2) := by
  have p := low_snd_pos (t := a) hb
  have q := low_snd_pos (t := c) hd
  have g := G_pos (a := (low a b).2) q
  have e1 := Int.ediv_mul_cancel (G_dvd_left (low a b).2 (low c d).2)
  have e2 := Int.ediv_mul_cancel (G_dvd_right (low a b).2 (low c d).2)
  have x := low_cross (t := a) (b := b)
  have y := low_cross (t := c) (b := d)
  have le : (low c d).1 * (low a b).2 ≤ (low a b).1 * (low c d).2 := by
    refine Int.le_of_mul_le_mul_left (a := b * d) ?_ (Int.mul_pos hb hd)
    have u : b * d * ((low c d).1 * (low a b).2) = (c * b) * ((low a b).2 * (low c d).2) := by grind
    have v : b * d * ((low a b).1 * (low c d).2) = (a * d) * ((low a b).2 * (low c d).2) := by grind
    rw [u, v]
    exact Int.mul_le_mul_of_nonneg_right h (Int.le_of_lt (Int.mul_pos p q))
  refine Int.le_of_mul_le_mul_right (a := G (low a b).2 (low c d).2) ?_ g
  generalize G (low a b).2 (low c d).2 = k at *
  generalize (low a b).2 / k = u at *
  generalize (low c d).2 / k = v at *
  have z : ((low a b).1 * v + -(low c d).1 * u) * k = (low a b).1 * (low c d).2 - (low c d).1 * (low a b).2 := by grind
  rw [z]
  omega
end Us
namespace Us
/-- the least number of which t/b as often is one or more -/
def cl (t b : Int) : Int := (b + t - 1) / t
theorem cl_spec {t b : Int} (ht : 0 < t) : b ≤ t * cl t b ∧ t * cl t b ≤ b + t - 1 := by
  unfold cl
  have h1 := Int.mul_ediv_add_emod (b + t - 1) t
  have h2 := Int.emod_nonneg (b + t - 1) (show t ≠ 0 by omega)
  have h3 := Int.emod_lt_of_pos (b + t - 1) ht
  generalize t * ((b + t - 1) / t) = u at *
  exact ⟨by omega, by omega⟩
theorem cl_unique {t b f : Int} (ht : 0 < t) (h1 : b ≤ t * f) (h2 : t * f ≤ b + t - 1) : cl t b = f := by
  obtain ⟨g1, g2⟩ := cl_spec (b := b) ht
  have a1 : t * (cl t b - f) < t := by rw [Int.mul_sub]; omega
  have a2 : t * (f - cl t b) < t := by rw [Int.mul_sub]; omega
  have b1 : cl t b - f < 1 := by
    refine Int.lt_of_mul_lt_mul_left (a := t) ?_ (by omega)
    omega
  have b2 : f - cl t b < 1 := by
    refine Int.lt_of_mul_lt_mul_left (a := t) ?_ (by omega)
    omega
  omega
theorem cl_scale {t b k : Int} (ht : 0 < t) (hk : 0 < k) : cl (k * t) (k * b) = cl t b := by
  obtain ⟨g1, g2⟩ := cl_spec (b := b) ht
  refine cl_unique (Int.mul_pos hk ht) ?_ ?_
  · have := Int.mul_le_mul_of_nonneg_left g1 (Int.le_of_lt hk)
    rw [Int.mul_assoc]
    exact this
  · have := Int.mul_le_mul_of_nonneg_left g2 (Int.le_of_lt hk)
    rw [Int.mul_assoc]
    have e : k * (b + t - 1) = k * b + k * t - k := by grind
    omega
/-- two or more below one -/
theorem cl_ge_two {t b : Int} (ht : 0 < t) (h : t < b) : 2 ≤ cl t b := by
  obtain ⟨g1, g2⟩ := cl_spec (b := b) ht
  have : t * 1 < t * cl t b := by omega
  have := Int.lt_of_mul_lt_mul_left this (Int.le_of_lt ht)
  omega
theorem cl_pos {t b : Int} (ht : 0 < t) (h : 0 < b) : 0 < cl t b := by
  obtain ⟨g1, g2⟩ := cl_spec (b := b) ht
  have : t * 0 < t * cl t b := by omega
  exact Int.lt_of_mul_lt_mul_left this (Int.le_of_lt ht)
theorem cl_le {t b : Int} (ht : 0 < t) (h : 0 < b) : cl t b ≤ b := by
  obtain ⟨g1, g2⟩ := cl_spec (b := b) ht
  rcases Int.lt_or_le b (cl t b) with z | z
  · have h1 : t * (b + 1) ≤ t * cl t b := Int.mul_le_mul_of_nonneg_left (by omega) (by omega)
    have h2 : b * 1 ≤ b * t := Int.mul_le_mul_of_nonneg_left (by omega) (by omega)
    have h3 : t * (b + 1) = b * t + t := by grind
    omega
  · exact z
theorem cl_anti {t t' b : Int} (ht' : 0 < t') (h : t' ≤ t) (hb : 0 < b) : cl t b ≤ cl t' b := by
  obtain ⟨g1, g2⟩ := cl_spec (t := t) (b := b) (by omega)
  obtain ⟨k1, k2⟩ := cl_spec (t := t') (b := b) ht'
  have p := cl_pos (t := t') ht' hb
  rcases Int.lt_or_le (cl t' b) (cl t b) with z | z
  · have h1 : t' * cl t' b ≤ t * cl t' b := Int.mul_le_mul_of_nonneg_right h (by omega)
    have h2 : t * (cl t' b + 1) ≤ t * cl t b := Int.mul_le_mul_of_nonneg_left (by omega) (by omega)
    have h3 : t * (cl t' b + 1) = t * cl t' b + t := by grind
    omega
  · exact z
/-- the numbers of the rising way -/
def eng (b t : Int) : List Int := if 0 < t then cl t b :: eng b (t * cl t b - b) else []
termination_by t.toNat
decreasing_by
  rename_i ht
  obtain ⟨g1, g2⟩ := cl_spec (b := b) ht
  omega
theorem eng_zero {b t : Int} (h : ¬ 0 < t) : eng b t = [] := by rw [eng, if_neg h]
theorem eng_pos {b t : Int} (h : 0 < t) : eng b t = cl t b :: eng b (t * cl t b - b) := by rw [eng, if_pos h]
theorem eng_ind {b : Int} {M : Int → Prop} (h0 : ∀ t, ¬ 0 < t → M t) (h1 : ∀ t, 0 < t → M (t * cl t b - b) → M t) : ∀ t, M t := by
  intro t
  generalize hn : t.toNat = n
  induction n using Nat.strongRecOn generalizing t with
  | _ n ih =>
    by_cases ht : 0 < t
    · obtain ⟨g1, g2⟩ := cl_spec (b := b) ht
      exact h1 t ht (ih _ (by omega) _ rfl)
    · exact h0 t ht
theorem eng_scale {b k : Int} (hk : 0 < k) : ∀ t, eng (k * b) (k * t) = eng b t := by
  refine eng_ind (b := b) (fun t ht => ?_) (fun t ht ih => ?_)
  · rw [eng_zero ht, eng_zero (fun z => ht (Int.lt_of_mul_lt_mul_left (a := k) (by omega) (by omega)))]
  · rw [eng_pos ht, eng_pos (Int.mul_pos hk ht), cl_scale ht hk]
    have e : k * t * cl t b - k * b = k * (t * cl t b - b) := by grind
    rw [e, ih]
theorem eng_len {b : Int} : ∀ t, 0 ≤ t → ((eng b t).length : Int) ≤ t := by
  refine eng_ind (b := b) (fun t ht h => ?_) (fun t ht ih h => ?_)
  · rw [eng_zero ht]; exact h
  · obtain ⟨g1, g2⟩ := cl_spec (b := b) ht
    rw [eng_pos ht, List.length_cons]
    have := ih (by omega)
    omega
/-- each is two or more and at most b; none falls -/
theorem eng_good {b : Int} : ∀ t, 0 ≤ t → t < b → (∀ x ∈ eng b t, 2 ≤ x ∧ x ≤ b ∧ (0 < t → cl t b ≤ x)) ∧ (eng b t).Pairwise (· ≤ ·) := by
  refine eng_ind (b := b) (fun t ht h0 h => ?_) (fun t ht ih h0 h => ?_)
  · rw [eng_zero ht]
    exact ⟨fun _ z => (nomatch z), List.Pairwise.nil⟩
  · obtain ⟨g1, g2⟩ := cl_spec (b := b) ht
    obtain ⟨i1, i2⟩ := ih (by omega) (by omega)
    rw [eng_pos ht]
    have two := cl_ge_two ht h
    have le := cl_le ht (show 0 < b by omega)
    have key : ∀ x ∈ eng b (t * cl t b - b), cl t b ≤ x := fun x hx => by
      by_cases hp : 0 < t * cl t b - b
      · have a1 := (i1 x hx).2.2 hp
        have a2 := cl_anti (t := t) hp (by omega) (show 0 < b by omega)
        omega
      · rw [eng_zero hp] at hx
        cases hx
    refine ⟨fun x hx => ?_, List.pairwise_cons.mpr ⟨key, i2⟩⟩
    rcases List.mem_cons.mp hx with rfl | hx
    · exact ⟨two, le, fun _ => Int.le_refl _⟩
    · exact ⟨(i1 x hx).1, (i1 x hx).2.1, fun _ => key x hx⟩
/-- the products from the first on -/
def prods (p : Int) : List Int → List Int
  | [] => []
  | f :: r => (p * f) :: prods (p * f) r
def prodL (p : Int) (fs : List Int) : Int := fs.foldl (· * ·) p
theorem prodL_snoc (p : Int) (fs : List Int) (f : Int) : prodL p (fs ++ [f]) = prodL p fs * f := by unfold prodL; rw [List.foldl_append]; rfl
theorem prods_snoc : ∀ (fs : List Int) (p f : Int), prods p (fs ++ [f]) = prods p fs ++ [prodL p fs * f]
  | [], _, _ => rfl
  | _ :: r, p, f => congrArg (List.cons _) (prods_snoc r _ f)
theorem prods_len : ∀ (fs : List Int) (p : Int), (prods p fs).length = fs.length
  | [], _ => rfl
  | _ :: r, p => congrArg (· + 1) (prods_len r _)
theorem foldl_tb_pos : ∀ (xs : List Int) (p : Int × Int), (∀ x ∈ xs, 0 < x) → 0 < p.2 → 0 < (xs.foldl tbStep p).2
  | [], _, _, h => h
  | x :: r, p, h, h2 => foldl_tb_pos r _ (fun y hy => h y (List.mem_cons_of_mem _ hy)) (Int.mul_pos h2 (h x List.mem_cons_self))
theorem prods_pos : ∀ (fs : List Int) (p : Int), 0 < p → (∀ f ∈ fs, 0 < f) → ∀ x ∈ prods p fs, 0 < x
  | [], _, _, _, _, h => nomatch h
  | f :: r, p, hp, hf, x, h => by
    have pf : 0 < p * f := Int.mul_pos hp (hf f List.mem_cons_self)
    rcases List.mem_cons.mp h with rfl | h
    · exact pf
    · exact prods_pos r _ pf (fun y hy => hf y (List.mem_cons_of_mem _ hy)) x h
theorem eng_fold {b : Int} (hb : 0 < b) : ∀ t, 0 ≤ t → ∀ (p : Int) (q : Int × Int), 0 < p → 0 < q.2 →
    ((prods p (eng b t)).foldl tbStep q).1 * (b * p) * q.2 = (q.1 * (b * p) + t * q.2) * ((prods p (eng b t)).foldl tbStep q).2 := by
  refine eng_ind (b := b) (fun t ht h0 p q hp hq => ?_) (fun t ht ih h0 p q hp hq => ?_)
  · obtain rfl : t = 0 := by omega
    rw [eng_zero ht]
    simp only [prods, List.foldl_nil]
    grind
  · obtain ⟨g1, g2⟩ := cl_spec (b := b) ht
    have cp := cl_pos ht hb
    rw [eng_pos ht]
    simp only [prods, List.foldl_cons]
    have pf : 0 < p * cl t b := Int.mul_pos hp cp
    have i := ih (by omega) (p * cl t b) (tbStep q (p * cl t b)) pf (Int.mul_pos hq pf)
    generalize (prods (p * cl t b) (eng b (t * cl t b - b))).foldl tbStep (tbStep q (p * cl t b)) = z at *
    simp only [tbStep] at i
    generalize cl t b = f at *
    have c : 0 < p * f * f := Int.mul_pos pf cp
    have : (p * f * f) * (z.1 * (b * p) * q.2 - (q.1 * (b * p) + t * q.2) * z.2) = 0 := by grind
    rcases Int.mul_eq_zero.mp this with w | w
    · omega
    · omega
theorem eng_sum {b t : Int} (h0 : 0 ≤ t) (hb : t < b) : sumM (prods 1 (eng b t)) = low t b := by
  have f := eng_fold (b := b) (by omega) t h0 1 (0, 1) (by decide) (by decide)
  have ep := (eng_good (b := b) t h0 hb).1
  have pos : 0 < (tb (prods 1 (eng b t))).2 := foldl_tb_pos _ (0, 1) (prods_pos _ 1 (by decide) fun f hf => by have := (ep f hf).1; omega) (by decide)
  unfold sumM
  refine low_unique pos (by omega) ?_
  have f' : (tb (prods 1 (eng b t))).1 * (b * 1) * 1 = (0 * (b * 1) + t * 1) * (tb (prods 1 (eng b t))).2 := f
  grind
theorem low_between {t b : Int} (h0 : 0 < t) (h1 : t < b) : 0 < (low t b).1 ∧ (low t b).1 < (low t b).2 := by
  have g := G_pos (a := t) (show 0 < b by omega)
  have e1 := low_mul_fst t b
  have e2 := low_mul_snd t b
  refine ⟨?_, ?_⟩
  · refine Int.lt_of_mul_lt_mul_right (a := G t b) ?_ (Int.le_of_lt g)
    rw [e1, Int.zero_mul]
    exact h0
  · refine Int.lt_of_mul_lt_mul_right (a := G t b) ?_ (Int.le_of_lt g)
    rw [e1, e2]
    exact h1
theorem eng_low {t b : Int} (hb : 0 < b) : eng b t = eng (low t b).2 (low t b).1 := by
  have g := G_pos (a := t) hb
  have e1 := low_mul_fst t b
  have e2 := low_mul_snd t b
  have s := eng_scale (b := (low t b).2) g (low t b).1
  rw [Int.mul_comm _ (low t b).2, Int.mul_comm _ (low t b).1, e1, e2] at s
  exact s
end Us
namespace L2
open PySem PySem.Spec PyProof.Rows
def CMulB (i j : Int) : Prop := (-Us.P2 9000 ≤ i ∧ i ≤ Us.P2 9000) ∧ (-Us.P2 9000 ≤ j ∧ j ≤ Us.P2 9000)
theorem CMulB.ok {i j : Int} (h : CMulB i j) : IntMulOk i j :=
  mulOk_of_bits (m := 9001) (n := 9001) (intBits_le_iff.mpr (Us.P2_natAbs h.1.1 h.1.2)) (intBits_le_iff.mpr (Us.P2_natAbs h.2.1 h.2.2)) (by decide)
theorem CMulB.of {i j : Int} {m n : Nat} (h1 : 0 ≤ i) (h2 : i ≤ Us.P2 m) (h3 : 0 ≤ j) (h4 : j ≤ Us.P2 n) (hm : m ≤ 9000) (hn : n ≤ 9000) : CMulB i j := by
  have a := Us.P2_mono hm
  have b := Us.P2_mono hn
  have c := Us.P2_pos 9000
  exact ⟨⟨by omega, by omega⟩, ⟨by omega, by omega⟩⟩
def CDivB (_ j : Int) : Prop := 0 < j ∧ j ≤ Us.P2 8999
theorem CDivB.np {i j : Int} (h : CDivB i j) : Builtin.divisionGoesByPylong i j = false := by
  have h1 : (0 : Int) < j := h.1
  have h2 := Us.P2_natAbs (n := 8999) (x := j) (by have := Us.P2_pos 8999; omega) h.2
  exact PyProof.noPylong_of_log2 ((Nat.log2_lt (by omega)).mpr h2)
theorem CDivB.lit {i j : Int} (h : 0 < j) (h2 : j ≤ 2 ^ 64) : CDivB i j := ⟨h, Us.P2_lit h2 (by decide)⟩
section
variable {X : Cx}
theorem op_mulB : OpR X (binaryOp .Mult) (rI CMulB fun i j => .int (i * j)) := opI fun _ _ _ _ _ _ _ hc q => mul_int q hc.ok
theorem op_fdivB : OpR X (binaryOp .FloorDiv) (rI CDivB fun i j => .int (i / j)) := opI fun i j _ _ _ _ _ hc q => by
  have h1 : (0 : Int) < j := hc.1
  exact floordiv_int (by omega) (by rw [Int.fdiv_eq_ediv_of_nonneg i (by omega)]; exact q) (.inl hc.np)

/-- what is wanted ahead of the rest, said once for all ways into it -/
theorem PSs.imp {sts : List Stmt} {t t' : TS} (h : PSs X sts t) (h' : ∀ D σ H, t' D σ H → t D σ H) : PSs X sts t' := fun pins s σ H D I q => h pins s σ H D I (h' D σ H q)

/-! ### isinstance(x, T), T a built-in type -/
theorem kit_tt {K : PySem.W.Frag} {T U : String} {b : Bool} (h1 : (Value.type T == Value.type U) = false) (h2 : PySem.W.kitMeta U = true) (h3 : (fastBuiltinMro T).map (·.contains (.type U)) = some b) : PySem.W.kitOne K (.type T) (.type U) = some b := by
  unfold PySem.W.kitOne
  rw [if_neg (by rw [h1]; exact Bool.false_ne_true)]
  show (if PySem.W.kitMeta U = true then PySem.W.subIn K (.type T) (.type U) else none) = some b
  rw [if_pos h2]
  exact h3
theorem kit_same {K : PySem.W.Frag} {T : String} : PySem.W.kitOne K (.type T) (.type T) = some true := by
  unfold PySem.W.kitOne
  rw [if_pos (by simp)]
theorem kit_int_bool {K : PySem.W.Frag} : PySem.W.kitOne K (.type "int") (.type "bool") = some false := kit_tt (by decide +kernel) (by decide +kernel) (by decide +kernel)
def rIsi (K : PySem.W.Frag) : List V → Hp → VK → Prop := fun xs H Q => ∃ x n t b, xs = [x, .ty n] ∧ TyOf K H x t ∧ PySem.W.kitOne K t (.type n) = some b ∧ Q (.bl b) H
theorem call_isi : CallR X (.builtin "isinstance") (rIsi X.K) := by
  intro pins s σ H xs us Q I r h
  obtain ⟨x, n, t, b, rfl, ty, e, q⟩ := h
  obtain ⟨u, c, rfl, ru, rc⟩ := r.two
  obtain rfl : c = Value.type n := rc
  exact isinst_ok I ru ty e (fun tk => ⟨.bl b, H, I.tok _, rfl, q⟩)
/-- a built-in type's name as a value -/
theorem pe_ty {x : Str} {n : String} {pos : Pos} (hm : X.mg x = none) (hv : bootBuiltins x = some (.type n)) (hg : Gl X x := by rfl) (hn : x ≠ "__name__" := by decide) (hd : (x == ("__debug__" : Str)) = false := by decide) : PE X (.Name x pos) (tC (.ty n)) :=
  pe_bltn hg hm hv rfl hn hd
end

/-! ### == and != of data: ints, bools, None, texts, lists and tuples of them -/
mutual
inductive DV (K : PySem.W.Frag) (H : Hp) : V → PyData → Prop
  | non : DV K H .non .none
  | bl (b : Bool) : DV K H (.bl b) (.bool b)
  | int (i : Int) : DV K H (.int i) (.int i)
  | str (x : Str) : DV K H (.str x) (.str x)
  | lst {a : Addr} {xs : List V} {ds : List PyData} (h : SqL K H a xs) (d : DVs K H xs ds) : DV K H (.ref a) (.list ds)
  | tup {a : Addr} {xs : List V} {ds : List PyData} (h : SqT K H a xs) (d : DVs K H xs ds) : DV K H (.ref a) (.tuple ds)
inductive DVs (K : PySem.W.Frag) (H : Hp) : List V → List PyData → Prop
  | nil : DVs K H [] []
  | cons {v : V} {d : PyData} {vs : List V} {ds : List PyData} (h : DV K H v d) (t : DVs K H vs ds) : DVs K H (v :: vs) (d :: ds)
end
section
variable {X : Cx} {pins : List (Addr × Obj)} {σ : St} {H : Hp} {s : Shared}
mutual
theorem DV.reads (I : Inv X pins σ H s) : ∀ {x : V} {d : PyData}, DV X.K H x d → ∀ {u : Value}, RelV x u → ∃ as, Reads s.heap u d as
  | _, _, .non, u, r => by obtain rfl : u = Value.none := r; exact ⟨_, .none⟩
  | _, _, .bl b, u, r => by obtain rfl : u = Value.bool b := r; exact ⟨_, .bool b⟩
  | _, _, .int i, u, r => by obtain ⟨t, rfl⟩ := (show ∃ t, u = Value.int i t from r); exact ⟨_, .int i t⟩
  | _, _, .str x, u, r => by obtain ⟨t, rfl⟩ := (show ∃ t, u = Value.str x t from r); exact ⟨_, .str x t⟩
  | _, _, .lst (a := a) h d, u, r => by
    obtain rfl : u = Value.ref a := r
    obtain ⟨its, rv, ⟨o, n, e, c, _, dt⟩, _⟩ := I.list h
    obtain ⟨as, ra⟩ := DVs.reads I d rv
    exact ⟨_, .list e c dt (by simpa using ra)⟩
  | _, _, .tup (a := a) h d, u, r => by
    obtain rfl : u = Value.ref a := r
    obtain ⟨its, rv, ⟨o, e, c, n, dt⟩, _⟩ := I.tuple h
    obtain ⟨as, ra⟩ := DVs.reads I d rv
    exact ⟨_, .tuple e c dt (by simpa using ra)⟩
theorem DVs.reads (I : Inv X pins σ H s) : ∀ {xs : List V} {ds : List PyData}, DVs X.K H xs ds → ∀ {us : List Value}, Vals xs us → ∃ as, ReadsAll s.heap us ds as
  | _, _, .nil, _, .nil => ⟨_, .nil⟩
  | _, _, .cons h t, _, .cons r rr => by
    obtain ⟨as, ra⟩ := DV.reads I h r
    obtain ⟨bs, rb⟩ := DVs.reads I t rr
    exact ⟨_, .cons ra rb⟩
end
end
def rEqD (K : PySem.W.Frag) : R2 := fun x y H Q => ∃ d e, DV K H x d ∧ DV K H y e ∧ SeqAt.shaped d = true ∧ SeqAt.shaped e = true ∧ Q (.bl (PyData.eqv d e)) H
def rNeD (K : PySem.W.Frag) : R2 := fun x y H Q => ∃ d e, DV K H x d ∧ DV K H y e ∧ SeqAt.shaped d = true ∧ SeqAt.shaped e = true ∧ Q (.bl (!PyData.eqv d e)) H
section
variable {X : Cx}
theorem op_eqD (hu : X.A.units + 64 < cLine) : OpR X (compareOp .Eq) (rEqD X.K) := by
  intro pins s σ H x y v u Q I rx ry h
  obtain ⟨d, e, hx, hy, h1, h2, q⟩ := h
  obtain ⟨as, ra⟩ := hx.reads I rx
  obtain ⟨bs, rb⟩ := hy.reads I ry
  exact eq_dataH ra rb h1 h2 hu ⟨.bl _, H, I, rfl, q⟩
theorem op_neD (hu : X.A.units + 64 < cLine) : OpR X (compareOp .NotEq) (rNeD X.K) := by
  intro pins s σ H x y v u Q I rx ry h
  obtain ⟨d, e, hx, hy, h1, h2, q⟩ := h
  obtain ⟨as, ra⟩ := hx.reads I rx
  obtain ⟨bs, rb⟩ := hy.reads I ry
  exact ne_dataH ra rb h1 h2 hu ⟨.bl _, H, I, rfl, q⟩
end
theorem dvs_ints {K : PySem.W.Frag} {H : Hp} : ∀ ns : List Int, DVs K H (ns.map V.int) (ns.map PyData.int)
  | [] => .nil
  | n :: r => .cons (.int n) (dvs_ints r)
theorem shaped_ints (ns : List Int) : SeqAt.shaped (.list (ns.map PyData.int)) = true := PySem.W.ke_shaped_ints ns
theorem eqv_ints (ns ms : List Int) : PyData.eqv (.list (ns.map PyData.int)) (.list (ms.map PyData.int)) = decide (ns = ms) := by
  rw [PyData.eqv]
  exact PySem.W.ked_eqvAll ns ms
theorem eqv_tup (ns ms : List Int) : PyData.eqv (.tuple (ns.map PyData.int)) (.tuple (ms.map PyData.int)) = decide (ns = ms) := by
  rw [PyData.eqv]
  exact PySem.W.ked_eqvAll ns ms
theorem shaped_tup (ns : List Int) : SeqAt.shaped (.tuple (ns.map PyData.int)) = true := by
  simp [SeqAt.shaped, PyData.canLay0, PyData.depth, PySem.W.ke_canLayAll0, PySem.W.ke_depthAll]

/-! ### texts: 'a' * n, int(text) -/
def repS (z : Str) (n : Nat) : Str := ⟨(List.replicate n z.cps).foldl (· ++ ·) #[]⟩
theorem rep_size (a : Array Nat) : ∀ (n : Nat) (acc : Array Nat), ((List.replicate n a).foldl (· ++ ·) acc).size = acc.size + n * a.size
  | 0, acc => by simp
  | n + 1, acc => by
    rw [List.replicate_succ, List.foldl_cons, rep_size a n, Array.size_append, Nat.succ_mul]
    omega
theorem repS_len (z : Str) (n : Nat) : (repS z n).length = n * z.length := by
  show ((List.replicate n z.cps).foldl (· ++ ·) #[]).size = n * z.cps.size
  rw [rep_size]
  simp
section
variable {X : Cx}
def rMulS : R2 := fun x y H Q => ∃ z n, x = .str z ∧ y = .int n ∧ 2 ≤ n ∧ n ≤ 1000 ∧ 1 ≤ z.length ∧ z.length ≤ 1000 ∧ Q (.str (repS z n.toNat)) H
theorem op_mulS : OpR X (binaryOp .Mult) rMulS := by
  intro pins s σ H x y v u Q I rx ry h
  obtain ⟨z, n, rfl, rfl, h1, h2, h3, h4, q⟩ := h
  obtain ⟨t, rfl⟩ := rx
  obtain ⟨t', rfl⟩ := ry
  have e0 : (n == 1 || z.length == 0) = false := by
    rw [Bool.or_eq_false_iff]
    exact ⟨beq_eq_false_iff_ne.mpr (by omega), beq_eq_false_iff_ne.mpr (by omega)⟩
  have hz : z.length * n.toNat ≤ 1000 * 1000 := Nat.mul_le_mul h4 (by omega)
  refine PySem.P.mul_str (by
      have a : ¬ n < -(2 ^ 63 : Int) := by omega
      have b : ¬ n ≥ 2 ^ 63 := by omega
      rw [decide_eq_false a, decide_eq_false b]; rfl) (fun _ _ => ?_) (fun _ _ => ?_) ?_
  · have : (1000 : Int) ≤ (2 ^ 63 - 1) / n := by
      rw [Int.le_ediv_iff_mul_le (by omega)]
      omega
    omega
  · unfold Builtin.Str.tooLong
    exact decide_eq_false (by have : sizeLine = 16777216 := sizeLine_eq; omega)
  · rw [if_neg (by omega), if_neg (by rw [e0]; exact Bool.false_ne_true)]
    have hl : (repS z n.toNat).length ≤ sizeLine := by
      rw [repS_len, Nat.mul_comm]
      have : sizeLine = 16777216 := sizeLine_eq
      omega
    exact ⟨hl, ⟨.str _, H, I.tok _, ⟨_, rfl⟩, q⟩⟩
def rIntS : List V → Hp → VK → Prop := fun xs H Q => ∃ z n, xs = [.str z] ∧ z.length ≤ 640 ∧ PySem.intText? z = some n ∧ Q (.int n) H
theorem call_intS : CallR X (.type "int") rIntS := by
  intro pins s σ H xs us Q I r h
  obtain ⟨z, n, rfl, h1, h2, q⟩ := h
  obtain ⟨u, rfl, ru⟩ := r.one
  obtain ⟨t, rfl⟩ := ru
  exact PySem.W.KIN.call_text h2 h1 ⟨.int n, H, I.tok _, ⟨_, rfl⟩, q⟩
end

/-! ### a def of the text, as callers see it; as the top gives it -/
structure Cal (P : Program) (w : World) (K : PySem.W.Frag) (mg : Str → Option Value) (base : Heap) (CX : CXT) (x : Str) (ps : List Str) (k : Nat) (sp : Sp) : Prop where
  ex : ∃ (f : Addr) (fd : FuncData), FnOk P w K mg base CX k f fd ps sp ∧ Binds K fd ps [] ∧ PySem.W.keepIn K (.ref f) = true ∧ mg x = some (.ref f) ∧ ∃ (oc : Value) (od : Option Addr) (osl : Array (Option Value)), K.lookup f = some ⟨oc, od, .func fd, osl⟩
theorem Cal.law {P : Program} {w : World} {K : PySem.W.Frag} {mg : Str → Option Value} {base : Heap} {CX : CXT} {x : Str} {ps : List Str} {k : Nat} {sp : Sp} {f : Addr} {fd : FuncData} {oc : Value} {od : Option Addr} {osl : Array (Option Value)} (C : Cal P w K mg base CX x ps k sp)
    (m : mg x = some (.ref f)) (l : K.lookup f = some ⟨oc, od, .func fd, osl⟩) : FnOk P w K mg base CX k f fd ps sp := by
  obtain ⟨f', fd', F, _, _, m', oc', od', osl', l'⟩ := C.ex
  rw [m] at m'
  cases m'
  rw [l] at l'
  cases l'
  exact F
theorem Cal.imp {P : Program} {w : World} {K : PySem.W.Frag} {mg : Str → Option Value} {base : Heap} {CX : CXT} {x : Str} {ps : List Str} {k : Nat} {sp sp' : Sp} (C : Cal P w K mg base CX x ps k sp) (h : ∀ vs H Q E, sp' vs H Q E → sp vs H Q E) : Cal P w K mg base CX x ps k sp' := by
  obtain ⟨f, fd, F, b⟩ := C.ex
  exact ⟨f, fd, F.imp h, b⟩
theorem pe_cal {X : Cx} {CX : CXT} {x : Str} {ps : List Str} {j k : Nat} {sp : Sp} {E : XK} {e : Expr} {es : List Expr} {t : TA} {p pos : Pos} (C : Cal X.prog X.w X.K X.mg X.base CX x ps j sp) (hr : Room k X.A) (hx : Passes CX X E) (ha : PA X (e :: es) t)
    (hj : j ≤ k := by decide) (hg : Gl X x := by rfl) (hdb : (x == ("__debug__" : Str)) = false := by decide) (he : starEach (e :: es) X.env = (false, eval e X.env) :: starEach es X.env := by rfl) (hpl : (backTo pos (starEach es X.env)).any (·.1) = false := by rfl) :
    PE X (.Call (.Name x p) (e :: es) [] pos) (tCall sp [] E t) := by
  obtain ⟨f, fd, F, b, kp, m, _⟩ := C.ex
  exact pe_call (F.mono hj) hr hg m kp b .nil hx ha hdb he hpl
structure Def (K : PySem.W.Frag) (mg : Str → Option Value) (x : Str) (st : Stmt) : Prop where
  ex : ∃ (f : Addr) (fd : FuncData), Fun K x x st f fd ∧ mg x = some (.ref f)
theorem Def.cal {P : Program} {w : World} {K : PySem.W.Frag} {mg : Str → Option Value} {base : Heap} {x : Str} {st : Stmt} {N ps : List Str} {k : Nat} {sp : Sp} (D : Def K mg x st) (S : FnScope N ps (defScope st))
    (hb : ∀ (kV doc pm : Value) (an : Option Addr) (cdv ct : Value) (us : List Value), us.length = ps.length → bindArgs (PySem.W.fnOf x x (defArgs st) (defBody st) (defScope st) .none kV doc pm an cdv ct) ⟨us, []⟩ = pure (ps.zip us))
    (len : ∀ vs H Q E, sp vs H Q E → vs.length = ps.length)
    (hbody : ∀ (f : Addr) (cdv : Value) (A : Around) (outer : List Env) (s : Shared) (H : Hp) (vs : List V) (Q : VK) (E : XK), Room k (A.deeper (envOfC x (defScope st) s.heap.objs.size f cdv)) → sp vs H Q E →
      ∃ t, PSs (cxOf CX0 P w K mg base N x (defScope st) f cdv A outer s H E).nox (defBody st) t ∧ t { nx := fun _ H' => Q .non H', rt := Q } (start N vs) H) : Cal P w K mg base CX0 x ps (k + 1) sp := by
  obtain ⟨f, fd, F, m⟩ := D.ex
  have F' := F.ok (P := P) (w := w) (mg := mg) (base := base) S len fun cdv A outer s H vs Q E hr h => hbody f cdv A outer s H vs Q E hr h
  have b := F.binds hb
  obtain ⟨oc, od, kV, doc, pm, an, cdv, ct, osl, e, lk, hcd⟩ := F.ex
  exact ⟨f, fd, F', b, F.kp, m, oc, od, osl, lk⟩
theorem Def.mk' {K : PySem.W.Frag} {mg : Str → Option Value} {h : Heap} {x : Str} {st : Stmt} {f : Addr} {oc : Value} {od an : Option Addr} {osl : Array (Option Value)} {kV doc pm cdv ct : Value} (X : K.In h) (G : h.Ns mainGlobals mg)
    (a : PySem.W.nsIn K mainGlobals x = some (some (.ref f))) (l : K.lookup f = some ⟨oc, od, .func (PySem.W.fnOf x x (defArgs st) (defBody st) (defScope st) .none kV doc pm an cdv ct), osl⟩)
    (c : PySem.W.codeIn K cdv x = true) (k : PySem.W.keepIn K (.ref f) = true) : Def K mg x st := ⟨f, _, fun_mk l c k, PySem.W.mg_of X G a⟩
theorem at0 {α : Type} {x : α} {xs : List α} : atI (x :: xs) 0 = some x := atI_nat (j := 0) rfl
theorem at1 {α : Type} {x y : α} {xs : List α} : atI (x :: y :: xs) 1 = some y := atI_nat (j := 1) rfl
theorem at_int {ns : List Int} {i : Int} (h0 : 0 ≤ i) (h : i < (ns.length : Int)) : atI (ns.map V.int) i = some (.int (ns.getD i.toNat 0)) := by
  have e : i = ((i.toNat : Nat) : Int) := by omega
  have hi : i.toNat < ns.length := by omega
  have q : (ns.map V.int)[i.toNat]? = some (.int (ns.getD i.toNat 0)) := by
    rw [List.getElem?_map, List.getD_eq_getElem?_getD, List.getElem?_eq_getElem hi]
    rfl
  have z := atI_nat q
  rw [← e] at z
  exact z
theorem map_get {xs : List Int} {i : Nat} {x : V} (h : (xs.map V.int)[i]? = some x) : ∃ z, xs[i]? = some z ∧ x = .int z := by
  rw [List.getElem?_map] at h
  cases e : xs[i]? with
  | none => rw [e] at h; cases h
  | some z => rw [e] at h; exact ⟨z, rfl, (Option.some.inj h).symm⟩
theorem iteDF {p A B : Prop} [Decidable p] (hp : ¬ p) (h : B) : if decide p = true then A else B := by
  rw [decide_eq_false hp]
  exact iteF h
theorem iteDT {p A B : Prop} [Decidable p] (hp : p) (h : A) : if decide p = true then A else B := by
  rw [decide_eq_true hp]
  exact iteT h
def sp_gcd : Sp := fun vs H Q _ => ∃ a b : Int, vs = [.int a, .int b] ∧ 0 ≤ a ∧ 0 ≤ b ∧ Q (.int (Us.G a b)) H
/-- a new object beside the old ones -/
theorem Same.new {H : Hp} {p : Addr} (h : H p = none) (o : HO) : Same H (upd H p o) := fun b u q => by rw [upd_ne (ne_of_none q h)]; exact q
theorem Same.tup {K : PySem.W.Frag} {H H' : Hp} {a : Addr} {xs : List V} (e : Same H H') (h : SqT K H a xs) : SqT K H' a xs := by
  rcases h with (h | ⟨o, h⟩) | h
  · exact .inl (.inl (e _ _ h))
  · exact .inl (.inr ⟨o, e _ _ h⟩)
  · exact .inr h
end L2
/-! OWN RULES, two: sorted, min. -/
namespace L2
open PySem PySem.Spec PyProof.Rows
theorem ObjOk.get {P : Program} {w : World} {H : Hp} {h : Heap} {a : Addr} {o : HO} (x : ObjOk P w H h a o) : ∃ u, h.get? a = some u := by
  cases o with
  | lst xs => obtain ⟨_, _, _, _, e⟩ := x; exact ⟨_, e⟩
  | tup xs => obtain ⟨_, _, _, p⟩ := x; obtain ⟨o, e, _⟩ := p; exact ⟨_, e⟩
  | dK kvs => obtain ⟨_, _, _, _, o, _, _, e, _⟩ := x; exact ⟨_, e⟩
  | dT kvs => obtain ⟨_, _, _, _, o, _, _, e, _⟩ := x; exact ⟨_, e⟩
  | set S n => obtain ⟨o, _, _, _, e, _⟩ := x; exact ⟨_, e⟩
  | ins C dx fs => obtain ⟨_, _, _, e, _⟩ := x; exact ⟨_, e⟩
  | own y => obtain ⟨_, e⟩ := x; exact ⟨_, e⟩
  | xd fs => obtain ⟨_, ⟨_, _, _, e, _⟩, _⟩ := x; exact ⟨_, e⟩
  | rng lo hi => obtain ⟨_, _, _, e⟩ := x; exact ⟨_, e⟩
  | frz ob u => obtain ⟨e, _⟩ := x; exact ⟨_, e⟩
  | tbl ps => exact ⟨_, (show h.get? a = some _ from x)⟩
  | met f y => exact ⟨_, (show h.get? a = some _ from x)⟩
  | ext φ => obtain ⟨_, e, _⟩ := x; exact e
theorem HOk.keptT {P : Program} {w : World} {H : Hp} {h h' : Heap} (x : HOk P w H h) (k : ∀ b u o, H b = some u → h.get? b = some o → h'.get? b = some o) : HOk P w H h' := fun a o e =>
  (x a o e).stay (fun b u hb q => by
    rcases hb with z | z
    · rw [z] at q ⊢
      exact k a o u e q
    · exact k b _ u z q) (fun _ q => q) fun _ _ q => q
theorem ints_of_vals : ∀ {ns : List Int} {its : List Value}, Vals (ns.map V.int) its → IntsAre its ns
  | [], _, .nil => .nil
  | _ :: _, _, .cons r t => by
    obtain ⟨u, rfl⟩ := r
    exact .cons _ _ (ints_of_vals t)
theorem vals_of_ints : ∀ {ns : List Int} {its : List Value}, IntsAre its ns → Vals (ns.map V.int) its
  | _, _, .nil => .nil
  | _, _, .cons _ _ r => .cons ⟨_, rfl⟩ (vals_of_ints r)
theorem ns_fun {h : Heap} {a : Addr} {m m' : Str → Option Value} (x : h.Ns a m) (y : h.Ns a m') : m = m' := by
  obtain ⟨o, es, ep, e, d, _, f⟩ := x
  obtain ⟨o', es', ep', e', d', _, f'⟩ := y
  rw [e] at e'
  cases e'
  rw [d] at d'
  cases d'
  funext z
  rw [← f, ← f']
section
variable {X : Cx} {pins : List (Addr × Obj)} {σ : St} {H : Hp} {s : Shared}
/-- behind a rule of the ledger that keeps all -/
theorem Inv.ledger {h' : Heap} {t' : Nat} {m : Str → Option Value} (I : Inv X pins σ H s) (F : Fr X.base X.env.locals s.heap m) (F' : Fr X.base X.env.locals h' m) (N' : News X.base X.env.locals h' (allNews X.base s.heap X.env.locals)) : Inv X pins σ H { s with heap := h', toks := t' } := by
  have k : ∀ b o, b ≠ X.env.locals → s.heap.get? b = some o → h'.get? b = some o := fun b o hb e => by
    cases q : X.base.get? b with
    | some u =>
      have := I.bk b u q
      rw [e] at this
      cases this
      exact F'.keep b _ q
    | none => exact (N' (b, o) (mem_allNews hb q e)).1
  have ns : ∀ m', s.heap.Ns X.env.locals m' → h'.Ns X.env.locals m' := fun m' hm => by
    rw [ns_fun hm F.ns]
    exact F'.ns
  have nL : ∀ b u, H b = some u → b ≠ X.env.locals := fun b u e z => by rw [z, I.free] at e; cases e
  refine I.step (g' := s.gens) (d' := s.drawn) (ch := []) (fun _ z => nomatch z) (fun b o hb _ _ e _ => k b o hb e) (fun b o hb _ _ e _ => ⟨o.slots, k b o hb e⟩) (fun _ _ _ _ n => n) (fun b o _ e => ?_) (fun _ _ q => q) (fun _ _ _ q => q) (fun _ ps q => ⟨#[], by rw [q]; simp⟩) ns ?_ I.bare
  · by_cases hb : b = X.env.locals
    · obtain ⟨o', _, _, e', _⟩ := F'.ns
      exact ⟨o', by rw [hb]; exact e'⟩
    · exact ⟨o, k b o hb e⟩
  · exact fun a u e => (I.hok a u e).stay (fun b w hb q => k b w (by
      rcases hb with z | z
      · rw [z]; exact nL a u e
      · exact nL b _ z) q) (fun _ q => q) fun _ _ q => q
end
section
variable {X : Cx}
def rSorted (K : PySem.W.Frag) : List V → Hp → VK → Prop := fun xs H Q => ∃ (p : Addr) (ns : List Int), xs = [.ref p] ∧ SqL K H p (ns.map V.int) ∧ ns.length < 64 ∧ ∀ (l : Addr) (ms : List Int), H l = none → ms.Perm ns → ms.Pairwise (· ≤ ·) → Q (.ref l) (upd H l (.lst (ms.map V.int)))
theorem call_sorted : CallR X (.builtin "sorted") (rSorted X.K) := by
  intro pins s σ H xs us Q I r h
  obtain ⟨p, ns, rfl, hS, hl, q⟩ := h
  obtain ⟨u, rfl, ru⟩ := r.one
  obtain rfl : u = Value.ref p := ru
  obtain ⟨its, rv, pl, hz⟩ := I.list hS
  have hI := ints_of_vals rv
  have len := hI.length
  refine sorted_ints pl.isList hI (by omega) fun out ms a1 a2 a3 => ?_
  obtain ⟨e, he⟩ := sortedAll_at s.heap its out
  have hf : H (s.heap.objs.size + 1) = none := I.hok.fresh (Nat.le_succ _)
  refine ⟨.ref (s.heap.objs.size + 1), _, I.laid (t' := s.toks) (fun b o q => sortedAll_old q) (Nat.le_succ _) ?_, rfl, q _ ms hf a2 a3⟩
  have rv' := vals_of_ints a1
  have e2 := a2.length_eq
  exact ⟨by rw [List.length_map, e2]; have : sizeLine = 16777216 := sizeLine_eq; omega, out.toList, e, rv', he⟩
def rMin (K : PySem.W.Frag) : List V → Hp → VK → Prop := fun xs H Q => ∃ (p : Addr) (ns : List Int), xs = [.ref p] ∧ SqL K H p (ns.map V.int) ∧ 0 < ns.length ∧ ∀ m : Int, m ∈ ns → (∀ a ∈ ns, m ≤ a) → Q (.int m) H
theorem call_minL (hc : X.calm = true) : CallR X (.builtin "min") (rMin X.K) := by
  intro pins s σ H xs us Q I r h
  obtain ⟨p, ns, rfl, hS, hl, q⟩ := h
  obtain ⟨u, rfl, ru⟩ := r.one
  obtain rfl : u = Value.ref p := ru
  obtain ⟨its, rv, pl, hz⟩ := I.list hS
  obtain ⟨m, F⟩ := I.fr
  exact min_list_N (I.ok.hd hc) F news_all pl.isList (ints_of_vals rv) hl fun h' M t tk F' N' h1 h2 => ⟨.int M, H, I.ledger F F' N', ⟨_, rfl⟩, q M h1 h2⟩
end
end L2

/-! EXCEPTIONS of own classes, over the layer: raised in a def, passed on by its callers. -/
namespace L2
open PySem PySem.Spec PyProof.Rows
/-- an exception at x, of the own class at C, flies: outer are the frames below, H and s the state at the call, H' and s' the state now -/
structure Fly0 (P : Program) (w : World) (outer : List Env) (H : Hp) (s : Shared) (x : Addr) (H' : Hp) (s' : Shared) : Prop where
  os : s'.os = s.os
  bare : AllBare s'.gens
  un : Un (frs outer) [] H H' s.heap s'.heap
  hok : HOk P w H' s'.heap
  new : H' x = none
  fresh : s.heap.get? x = none
structure Fly (P : Program) (w : World) (outer : List Env) (H : Hp) (s : Shared) (x C : Addr) (H' : Hp) (s' : Shared) : Prop extends Fly0 P w outer H s x H' s' where
  fl : ∃ (B : Heap) (a0 : Value), Heap.FlyingW B outer x (.ref C) a0 s'.heap ∧ (∀ b u o, H' b = some u → s'.heap.get? b = some o → B.get? b = some o) ∧
    (∀ b o o', s.heap.get? b = some o → b ∉ frs outer → s'.heap.get? b = some o' → B.get? b = some o')
def CXE (P : Program) (w : World) : CXT := fun outer H s E e s' => ∃ (x C : Addr) (H' : Hp), e = .ref x ∧ Fly P w outer H s x C H' s' ∧ E (.ref C) none H'

/-- a body whose exceptions leave it so -/
structure OwnX (X : Cx) (E : XK) : Prop where
  xe : ∀ e s', wpAny (model X.prog X.w) X.A (leaving X.env e) (fun _ s'' => CXE X.prog X.w X.outer X.H₀ X.s₀ E e s'') (fun e' s'' => CXE X.prog X.w X.outer X.H₀ X.s₀ E e' s'') s' → X.xe e s'
  ex : X.ex = []
  st : X.stack = X.env :: X.outer
  fr : X.env.frame = some X.env.locals
theorem own_cx {P : Program} {w : World} {K : PySem.W.Frag} {mg : Str → Option Value} {base : Heap} {N : List Str} {qual : Str} {scope : Scope} {f : Addr} {cd : Value} {A : Around} {outer : List Env} {s : Shared} {H : Hp} {E : XK} :
    OwnX (cxOf (CXE P w) P w K mg base N qual scope f cd A outer s H E) E := ⟨fun _ _ h => h, rfl, rfl, rfl⟩

section
variable {X : Cx} {pins : List (Addr × Obj)} {σ : St} {H1 : Hp} {s1 : Shared} {E : XK}
/-- what is known of old things behind a state of this body and a heap that keeps B -/
theorem Fly0.out (I : Inv X pins σ H1 s1) (O : X.ex = []) {x C : Addr} {H' : Hp} {s' : Shared} (F : Fly0 X.prog X.w X.stack H1 s1 x H' s') {h' : Heap} {B : Heap} {a0 : Value}
    (t1 : ∀ b u o, H' b = some u → s'.heap.get? b = some o → B.get? b = some o) (t2 : ∀ b o o', s1.heap.get? b = some o → b ∉ frs X.stack → s'.heap.get? b = some o' → B.get? b = some o')
    (fl' : Heap.FlyingW B X.outer x (.ref C) a0 h') (up : s'.heap.UpToSlots h') : Fly X.prog X.w X.outer X.H₀ X.s₀ x C H' { s' with heap := h' } := by
  have st : ∀ b o, B.get? b = some o → h'.get? b = some o := fl'.1
  have nx : ∀ b : Addr, b ∉ X.ex := fun b => by rw [O]; simp
  have ne : ∀ b o, X.s₀.heap.get? b = some o → b ∉ frs X.outer → b ∉ frs X.stack := fun b o e nb hb => by
    rcases List.mem_cons.mp (I.stkSub b hb) with z | z
    · exact absurd (Heap.lt_size e) (by rw [z]; exact Nat.not_lt.mpr I.ok.above)
    · exact nb z
  have old : ∀ b o, X.s₀.heap.get? b = some o → b ∉ frs X.outer → ∃ o', s'.heap.get? b = some o' ∧ B.get? b = some o' := fun b o e nb => by
    obtain ⟨o1, e1⟩ := I.base.there b o e (nx b)
    obtain ⟨o2, e2⟩ := F.un.there b o1 e1 (by simp)
    exact ⟨o2, e2, t2 b o1 o2 e1 (ne b o e nb) e2⟩
  have slot : ∀ b o, X.s₀.heap.get? b = some o → X.H₀ b = none → b ∈ frs X.outer → ∃ sl, h'.get? b = some { o with slots := sl } := fun b o e n hb => by
    obtain ⟨sl1, e1⟩ := I.base.slot b o e n hb (nx b)
    obtain ⟨sl2, e2⟩ := F.un.any e1 (I.base.free b o e n (nx b)) (by simp)
    obtain ⟨_, o0, ho0, hd⟩ := I.ok.funs.mem hb
    rw [e] at ho0
    cases ho0
    obtain ⟨sl3, e3⟩ := up b _ e2 fun vs q => hd vs q
    exact ⟨sl3, e3⟩
  have fresh0 : X.s₀.heap.get? x = none := by
    cases z : X.s₀.heap.get? x with
    | none => rfl
    | some o =>
      obtain ⟨o1, e1⟩ := I.base.there x o z (nx x)
      rw [F.fresh] at e1
      cases e1
  refine ⟨⟨F.os.trans I.os, F.bare, ⟨fun b o e n hb _ => ?_, fun b o e n hb _ => slot b o e n hb, fun b o e n _ => ?_, fun b o e _ => ?_, fun b xs e => F.un.tups b xs (I.base.tups b xs e), fun b o u e => F.un.frzs b o u (I.base.frzs b o u e), fun b ps e => ?_⟩,
    F.hok.keptT fun b u o e q => st b o (t1 b u o e q), F.new, fresh0⟩, ⟨B, a0, fl', fun b u o e q => ?_, fun b o o' e nb q => ?_⟩⟩
  · have e1 := I.base.keep b o e n hb (nx b)
    have n1 := I.base.free b o e n (nx b)
    have e2 := F.un.keep b o e1 n1 (ne b o e hb) (by simp)
    exact st b o (t2 b o o e1 (ne b o e hb) e2)
  · obtain ⟨o1, e1⟩ := I.base.there b o e (nx b)
    exact F.un.free b o1 e1 (I.base.free b o e n (nx b)) (by simp)
  · by_cases hb : b ∈ frs X.outer
    · obtain ⟨sl, q⟩ := slot b o e (I.ok.frf b hb) hb
      exact ⟨_, q⟩
    · obtain ⟨o', _, q⟩ := old b o e hb
      exact ⟨o', st _ _ q⟩
  · obtain ⟨m1, e1⟩ := I.base.tbls b ps e
    obtain ⟨m2, e2⟩ := F.un.tbls b _ e1
    exact ⟨m1 ++ m2, by rw [e2, Array.append_assoc]⟩
  · obtain ⟨o1, e1⟩ := (F.hok b u e).get
    have eB := t1 b u o1 e e1
    have q' : h'.get? b = some o := q
    rw [st _ _ eB] at q'
    cases q'
    exact eB
  · obtain ⟨o1, _, eB⟩ := old b o e nb
    have q' : h'.get? b = some o' := q
    rw [st _ _ eB] at q'
    cases q'
    exact eB
/-- a callee's exception passes on -/
theorem passE (O : OwnX X E) : Passes (CXE X.prog X.w) X E := by
  intro pins σ H1 s1 e s' I h
  obtain ⟨x, C, H', rfl, F, hE⟩ := h
  refine O.xe _ _ ?_
  obtain ⟨B, a0, fl, t1, t2⟩ := F.fl
  have fl0 := fl
  rw [O.st] at fl0
  exact wpAny_leaves_onW (by rw [I.ok.frames, O.st]) O.fr fl0 fun h' fl' up => ⟨x, C, H', rfl, F.toFly0.out I O.ex t1 t2 fl' up, hE⟩
end

/-! ### raise C(..), C an own class under ValueError -/
abbrev mroVE : List Value := [.type "ValueError", .type "Exception", .type "BaseException", .type "object"]
theorem cls_in {K : PySem.W.Frag} {h : Heap} {C : Addr} (X : K.In h) (q : PySem.W.excIn K C mroVE "ValueError.__new__" = true) : ∃ (tl : List Value) (N : Addr) (nm qn : Str) (bs : List Value) (hd : Bool) (sn : List Str) (sub : List Value) (ab : Bool) (col : Option Bool) (dd : Option Addr) (k0 k1 k2 k3 k5 : Option Value) (mN : Str → Option Value),
    h.get? C = some (excClassObj nm qn C N bs tl hd sn sub ab col dd k0 k1 k2 k3 k5 "ValueError.__new__") ∧ h.Ns N mN ∧ mN "__init__" = none ∧ OwnTail h mroVE tl := by
  unfold PySem.W.excIn at q
  split at q
  next dd cd sl found =>
    split at q
    next C2 tl k0 k1 k2 k3 nid k5 em es =>
      simp only [Bool.and_eq_true, beq_iff_eq, Bool.not_eq_true'] at q
      obtain ⟨⟨⟨⟨⟨q1, q2⟩, q3⟩, q4⟩, q5⟩, q6⟩ := q
      subst q1 q2
      obtain ⟨nm, bs, mro, ns, qn, hd, sn, sub, ab, col, del⟩ := cd
      dsimp only at em q3 q5 q6
      subst em
      subst q3
      obtain ⟨sll⟩ := sl
      have esl : sll = [k0, k1, k2, k3, some (.builtin "ValueError.__new__"), k5] := es
      subst esl
      exact ⟨tl, ns, nm, qn, bs, hd, sn, sub, ab, col, dd, k0, k1, k2, k3, k5, _, X _ _ found, .of_isNs (PySem.W.isNs_of_in X q5), PySem.W.nsMap_none_of_in X q5 q6, PySem.W.tail_of_in X q4⟩
    next => cases q
  next => cases q
def tRaise (C : Addr) (E : XK) (ta : TA) : TS := fun _ σ H => ta σ H fun xs H1 => xs.length ≤ sizeLine ∧ E (.ref C) none H1
theorem ps_raise {X : Cx} {E : XK} {x : Str} {C : Addr} {e : Expr} {es : List Expr} {ta : TA} {np cpos pos : Pos} (O : OwnX X E) (hc : X.calm = true) (hm : X.mg x = some (.ref C)) (hq : PySem.W.excIn X.K C mroVE "ValueError.__new__" = true) (ha : PA X (e :: es) ta) (hg : Gl X x := by rfl)
    (hd : (x == ("__debug__" : Str)) = false := by decide) (hs : starEach (e :: es) X.env = (false, eval e X.env) :: starEach es X.env := by rfl) (hpl : (backTo cpos (starEach es X.env)).any (·.1) = false := by rfl) :
    PS X (.Raise (some (.Call (.Name x np) (e :: es) [] cpos)) none pos) (tRaise C E ta) := by
  intro pins s σ H D I h
  obtain ⟨tl, N, nm, qn, bs, hd', sn, sub, ab, col, dd, k0, k1, k2, k3, k5, mN, hC, hN, hni, T⟩ := cls_in I.mod.kin hq
  refine wpAny_Raise_call_subT (C := C) (nm := nm) (q := qn) (N := N) (bs := bs) (bm := tl) (hdct := hd') (sn := sn) (sub := sub) (ab := ab) (col := col) (dd := dd) (k0 := k0) (k1 := k1) (k2 := k2) (k3 := k3) (k5 := k5)
    PySem.F.excBase_ValueError (mN := mN) (T.hasType PySem.F.excBase_ValueError.hasBase) (I.ok.hd hc) (by rw [hs]; show (false || (backTo cpos (starEach es X.env)).any (·.1)) = false; rw [hpl]; rfl) hni (ld_glob I hg hm ⟨rfl, ?_⟩ hd)
  have hA := ha cpos pins s σ H _ I h
  rw [hs] at hA ⊢
  refine Calls.evalArgs_plain (wpAny_mono hA (fun vs s2 q => ?_) fun _ _ y => y)
  obtain ⟨xs, H2, I2, rv, hz, hE⟩ := q
  refine ⟨rfl, by rw [← rv.length]; exact hz, I2.bk _ _ hC, hN.keeps I2.bk, T.keeps I2.bk, fun h' e hx => O.xe _ _ ?_⟩
  have hin : ∀ env ∈ X.stack, ∀ b, env.frame = some b → b ∈ frs X.stack := fun env he b hb => List.mem_filterMap.mpr ⟨env, he, hb⟩
  have hfun := PySem.W.funFrames_hide I2.stack hin
  have F0 : Fly0 X.prog X.w X.stack H2 s2 e H2 { s2 with heap := h' } := ⟨rfl, I2.bare, Un.kept hx.keeps, I2.hok.kept hx.keeps, (by
    cases z : H2 e with
    | none => rfl
    | some u =>
      obtain ⟨o, eo⟩ := (I2.hok e u z).get
      rw [hx.new] at eo
      cases eo), hx.new⟩
  have t1 : ∀ b u o, H2 b = some u → h'.get? b = some o → (PySem.W.hideAll s2.heap (frs X.stack)).get? b = some o := fun b u o eb eo => by
    obtain ⟨o1, e1⟩ := (I2.hok b u eb).get
    rw [hx.keeps _ _ e1] at eo
    cases eo
    refine PySem.W.hideAll_get _ e1 fun hb => ?_
    rw [I2.stkFree b hb] at eb
    cases eb
  have t2 : ∀ b o o', s2.heap.get? b = some o → b ∉ frs X.stack → h'.get? b = some o' → (PySem.W.hideAll s2.heap (frs X.stack)).get? b = some o' := fun b o o' e1 nb eo => by
    rw [hx.keeps _ _ e1] at eo
    cases eo
    exact PySem.W.hideAll_get _ e1 nb
  refine wpAny_leaves_madeW (base := PySem.W.hideAll s2.heap (frs X.stack)) (env := X.env) (outer := X.outer) (by rw [I2.ok.frames, O.st]) O.fr (fun b o q => PySem.W.of_hideAll _ q) (by rw [← O.st]; exact hfun) hx fun h'' t fl' _ _ up => ?_
  exact ⟨e, C, H2, rfl, F0.out I2 O.ex t1 t2 fl' up, hE⟩

/-! ### a def that may raise -/
theorem Def.calE {P : Program} {w : World} {K : PySem.W.Frag} {mg : Str → Option Value} {base : Heap} {x : Str} {st : Stmt} {N ps : List Str} {k : Nat} {sp : Sp} (D : Def K mg x st) (S : FnScope N ps (defScope st))
    (hb : ∀ (kV doc pm : Value) (an : Option Addr) (cdv ct : Value) (us : List Value), us.length = ps.length → bindArgs (PySem.W.fnOf x x (defArgs st) (defBody st) (defScope st) .none kV doc pm an cdv ct) ⟨us, []⟩ = pure (ps.zip us))
    (len : ∀ vs H Q E, sp vs H Q E → vs.length = ps.length)
    (hbody : ∀ (f : Addr) (cdv : Value) (A : Around) (outer : List Env) (s : Shared) (H : Hp) (vs : List V) (Q : VK) (E : XK), Room k (A.deeper (envOfC x (defScope st) s.heap.objs.size f cdv)) → sp vs H Q E →
      ∃ t, PSs (cxOf (CXE P w) P w K mg base N x (defScope st) f cdv A outer s H E) (defBody st) t ∧ t { nx := fun _ H' => Q .non H', rt := Q } (start N vs) H) : Cal P w K mg base (CXE P w) x ps (k + 1) sp := by
  obtain ⟨f, fd, F, m⟩ := D.ex
  have b := F.binds hb
  have kp := F.kp
  obtain ⟨oc, od, kV, doc, pm, an, cdv, ct, osl, rfl, lk, hcd⟩ := F.ex
  exact ⟨f, _, fn_of lk hcd S len fun A outer s H vs Q E hr h => hbody f cdv A outer s H vs Q E hr h, b, kp, m, oc, od, osl, lk⟩
end L2

namespace L2
open PySem PySem.Spec PyProof.Rows PySem.W Builtin Builtin.Getset_descriptor
section
variable {prog : Program} {w : World} {A : Around} {E : Value → Shared → Prop} {s : Shared} {K : PySem.W.Frag} {x C : Addr} {ox : Obj}
/-- an exception of the class at C -/
def ExcAt (x C : Addr) (h : Heap) : Prop := ∃ o, h.get? x = some o ∧ o.cls = .ref C
theorem ExcAt.type {M : Model} {h : Heap} (I : ExcAt x C h) : Looks M h (typeOf (.ref x)) (.ref C) := by
  obtain ⟨o, e, c⟩ := I
  exact c ▸ (Looks.ld e).andThen .now
theorem look_data {M : Model} {h : Heap} {name : Str} {a g : Value} (X : K.In h) (ha : findIn K (.ref C) name = some (some a)) (hg : specialIn K a "__get__" = some (some g)) (ht : takesIn K a = some true) : Looks M h (Builtin.ObjectAttr.find (.ref x) (.ref C) name) (.bind g a) := by
  have l1 := looks_findIn (M := M) X ha
  have l2 : Looks M h (Builtin.ObjectAttr.getOf (some a)) (some g) := looks_specialIn X hg
  have l3 : Looks M h (Builtin.ObjectAttr.dataDescriptor? (some a) (some g)) (some (g, a)) := (looks_takesIn X ht).andThen .now
  exact l1.andThen (l2.andThen (l3.andThen (Looks.tag .now)))
theorem cls_of {R : Result → Shared → Prop} {tp : Value} (X : K.In s.heap) (I : ExcAt x C s.heap) (hm : mroIn K C (.type "object") = some true) (h : R (.ok (.ret (.ref C))) s) :
    codeAny (model prog w) A (.call (.builtin "getset_descriptor.__get__") ⟨[.builtin "object.__class__", .ref x, tp], []⟩) R s := by
  obtain ⟨h0, g0, d0, t0, o0⟩ := s
  have lt := I.type (M := model prog w)
  have lm := looks_mroIn (M := model prog w) X hm
  refine codeAny_call_builtin KF.slot_gs.plain KF.entry_gs ?_
  refine KF.slot_gs.check _ _ _ _ _ _ _ _ KF.type_class (KF.args_gs _ _ _) ?_
  unfold Builtin.«getset_descriptor.__get__» descrGet; rw [dga_obj]
  refine wpAny_bind (wpAny_pure ?_); unfold descrGetter descrCheckInstance descrNameAndClass isInstance
  simp only [KF.owner_class]; repeat lk
  refine ⟨Code.quiet_builtin _ (by decide +kernel), ?_⟩
  refine codeAny_builtin KF.entry_class ?_
  unfold Builtin.«object.__class__» shownTypeOf; repeat lk
  exact h
theorem exc_class {Q : Option Value → Shared → Prop} (X : K.In s.heap) (I : ExcAt x C s.heap) (hga : findIn K (.ref C) "__getattribute__" = some (some (.builtin "BaseException.__getattribute__"))) (hgx : findIn K (.ref C) "__getattr__" = some none)
    (hfa : findIn K (.ref C) "__class__" = some (some (.builtin "object.__class__"))) (hfg : specialIn K (.builtin "object.__class__") "__get__" = some (some (.builtin "getset_descriptor.__get__"))) (hft : takesIn K (.builtin "object.__class__") = some true) (hmo : mroIn K C (.type "object") = some true) (hmb : mroIn K C (.type "BaseException") = some true)
    (h : Q (some (.ref C)) { s with toks := s.toks + 1 }) : wpAny (model prog w) A (getAttr? (.ref x) "__class__") Q E s := by
  obtain ⟨hh, g, d, t, os⟩ := s
  have L0 := I.type (M := model prog w)
  have L1 := looks_findIn (M := model prog w) X hga
  have L2 := looks_findIn (M := model prog w) X hgx
  have L3 := look_data (M := model prog w) (x := x) X hfa hfg hft
  have L4 := looks_mroIn (M := model prog w) X hmb
  unfold getAttr? getAttrBy? getAttrBy
  refine wpAny_bind (wpAny_mkText (wpAny_bind (wpAny_attempt (wpAny_holding (wpAny_bind (L0.at (wpAny_bind (L1.at ?_))))))))
  dsimp only
  rw [if_neg (by simp)]
  unfold getAttrByItsOwn hookBefore
  rw [if_pos (show onTheHeap (Value.ref C) = true from rfl)]
  refine wpAny_bind (L2.at ?_)
  refine wpAny_bind (wpAny_attempt (wpAny_holding ?_))
  unfold callGetattribute
  rw [if_neg (by simp)]
  unfold boundAndCalled
  refine wpAny_bind (wpAny_of_eq (PySem.F.excAttr_ValueError.ga.bind (.ref x)) ?_)
  refine wpAny_call (codeAny_call_builtin PySem.F.excAttr_ValueError.ga.plain PySem.F.entry_bexc_ga ?_)
  have hk : builtinKind "BaseException.__getattribute__" = some .slot := by decide +kernel
  have hsp : splitId "BaseException.__getattribute__" = some ("BaseException", "__getattribute__") := by decide +kernel
  have ha := PySem.F.args_bexc_ga (.ref x) (.str "__class__" t)
  show wpAny _ _ (checkBuiltinCall "BaseException.__getattribute__" ⟨[.ref x, .str "__class__" t], []⟩) _ _ _
  simp only [checkBuiltinCall, hk, hsp]
  have LI : Looks (model prog w) hh (isInstance (.ref x) (.type "BaseException")) true := L0.andThen L4
  refine wpAny_bind (LI.at ?_)
  simp only [Bool.not_true, Bool.false_eq_true, if_false]
  refine wpAny_of_eq ha ?_
  show wpAny _ _ (Builtin.«object.__getattribute__» ⟨[.ref x, .str "__class__" t], []⟩) _ _ _
  unfold Builtin.«object.__getattribute__»
  refine wpAny_bind (wpAny_of_eq (a := (Value.ref x, [Value.str "__class__" t])) rfl ?_)
  refine wpAny_bind (wpAny_of_eq (a := Str.ofString "__class__") rfl ?_)
  refine wpAny_bind (L0.at ?_)
  refine wpAny_bind (L3.at ?_)
  dsimp only
  show wpAny _ _ (holding [Value.builtin "object.__class__"] (call (.builtin "getset_descriptor.__get__") [.builtin "object.__class__", .ref x, .ref C]) >>= ret) _ _ _
  refine wpAny_bind (wpAny_holding (wpAny_call (cls_of X I hmo ?_)))
  refine wpAny_pure ?_
  exact wpAny_pure (wpAny_pure h)
theorem kitx_exc (hcl : (clsIn K C).isSome = true) (hga : findIn K (.ref C) "__getattribute__" = some (some (.builtin "BaseException.__getattribute__"))) (hgx : findIn K (.ref C) "__getattr__" = some none)
    (hfa : findIn K (.ref C) "__class__" = some (some (.builtin "object.__class__"))) (hfg : specialIn K (.builtin "object.__class__") "__get__" = some (some (.builtin "getset_descriptor.__get__"))) (hft : takesIn K (.builtin "object.__class__") = some true) (hmo : mroIn K C (.type "object") = some true) (hmb : mroIn K C (.type "BaseException") = some true) :
    KitX K (.ref x) (.ref C) (ExcAt x C) where
  ty := fun _ _ _ I => I.type
  it := fun _ _ X _ => by
    unfold clsIn at hcl
    split at hcl
    next found =>
      intro A' Q' E' s' k q
      unfold isType loadHead
      exact wpAny_bind (wpAny_loadPart (k _ _ (X _ _ found)) (wpAny_pure q))
    next => cases hcl
  ne := fun h tp dd its n sl X htp => by
    refine Bool.eq_false_iff.mpr fun q => ?_
    obtain rfl : C = tp := Value.ref.inj (beq_iff_eq.mp q)
    unfold clsIn at hcl
    split at hcl
    next found => cases (X _ _ found).symm.trans htp
    next => cases hcl
  ca := fun X I k => exc_class X I hga hgx hfa hfg hft hmo hmb k
end
end L2

/-! EXCEPTIONS, three: try: x = f(..) except C as e: .. -/
namespace L2
open PySem PySem.Spec PyProof.Rows
/-- within an except suite -/
def Cx.markd (X : Cx) (x : Addr) (E : Value → Shared → Prop) : Cx := { X with A := X.A.mark (some (.ref x)), calm := false, xe := E }
def ExcO (x C : Addr) : HO := .ext (ExcAt x C)
section
variable {X : Cx} {pins : List (Addr × Obj)} {σ : St} {H1 H : Hp} {s1 s : Shared} {x C : Addr}
theorem Inv.markd (I : Inv X pins σ H s) (x : Addr) (E : Value → Shared → Prop) : Inv (X.markd x E) pins σ H s :=
  ⟨⟨I.ok.mod, I.ok.kind, I.ok.glob, I.ok.blt, I.ok.above, I.ok.inj, I.ok.has, I.ok.cab, fun h => absurd (show false = true from h) Bool.false_ne_true, I.ok.frames, I.ok.stk, I.ok.exf, I.ok.bs, I.ok.bsz, I.ok.noex, I.ok.exfs, I.ok.funs, I.ok.frf⟩, I.os, I.bare, I.base, I.loc, I.cell, I.free, I.freeC, I.pin, I.hok, I.len⟩
theorem Inv.unmark {E : Value → Shared → Prop} (O : X.Ok) (I : Inv (X.markd x E) pins σ H s) : Inv X pins σ H s := ⟨O, I.os, I.bare, I.base, I.loc, I.cell, I.free, I.freeC, I.pin, I.hok, I.len⟩
/-- an exception has landed in this body -/
theorem Fly.land (I : Inv X pins σ H1 s1) {H' : Hp} {s' : Shared} (F : Fly X.prog X.w X.stack H1 s1 x C H' s') {h B : Heap} (t1 : ∀ b u o, H' b = some u → s'.heap.get? b = some o → B.get? b = some o)
    (t2 : ∀ b o o', s1.heap.get? b = some o → b ∉ frs X.stack → s'.heap.get? b = some o' → B.get? b = some o') (st : B.StaysIn h) (up : s'.heap.UpToSlots h) : Inv X pins σ H' { s' with heap := h } := by
  have slot : ∀ b o, s1.heap.get? b = some o → H1 b = none → b ∈ frs X.stack → ∃ sl, h.get? b = some { o with slots := sl } := fun b o e n hb => by
    obtain ⟨sl, e2⟩ := F.un.slot b o e n hb (by simp)
    obtain ⟨_, o0, ho0, hd⟩ := I.stack.mem hb
    rw [e] at ho0
    cases ho0
    obtain ⟨sl3, e3⟩ := up b _ e2 fun vs q => hd vs q
    exact ⟨sl3, e3⟩
  have U : Un (frs X.stack) [] H1 H' s1.heap h := ⟨fun b o e n hb hx => st b o (t2 b o o e hb (F.un.keep b o e n hb hx)), fun b o e n hb _ => slot b o e n hb, fun b o e n hx => F.un.free b o e n hx, fun b o e hx => by
      by_cases hb : b ∈ frs X.stack
      · obtain ⟨sl, q⟩ := slot b o e (I.stkFree b hb) hb
        exact ⟨_, q⟩
      · obtain ⟨o', q⟩ := F.un.there b o e hx
        exact ⟨o', st b o' (t2 b o o' e hb q)⟩, F.un.tups, F.un.frzs, F.un.tbls⟩
  exact I.call' (s' := { s' with heap := h }) (ch := []) F.os U (F.hok.keptT fun b u o e q => st b o (t1 b u o e q)) F.bare fun b z => absurd z (by simp)
/-- an object that was not followed is followed from here on -/
theorem Inv.track {a : Addr} {o : HO} (I : Inv X pins σ H s) (hn : H a = none) (h0 : X.s₀.heap.get? a = none) (hL : a ≠ X.env.locals) (hc : ∀ y c, X.env.cells.lookup y = some c → c ≠ a) (hp : ∀ p ∈ X.pn ++ pins, p.1 ≠ a) (ho : ObjOk X.prog X.w (upd H a o) s.heap a o) : Inv X pins σ (upd H a o) s := by
  have ne : ∀ b u, H b = some u → b ≠ a := fun b u e z => by rw [z, hn] at e; cases e
  have old : ∀ b u, X.s₀.heap.get? b = some u → b ≠ a := fun b u e z => by rw [z, h0] at e; cases e
  refine ⟨I.ok, I.os, I.bare, ⟨I.base.keep, I.base.slot, fun b u e n hx => by rw [upd_ne (old b u e)]; exact I.base.free b u e n hx, I.base.there, fun b xs e => ?_, fun b q u e => ?_, fun b ps e => ?_⟩, I.loc, I.cell, by rw [upd_ne (Ne.symm hL)]; exact I.free, fun y c e => by rw [upd_ne (hc y c e)]; exact I.freeC y c e, fun p q => ?_, fun b u e => ?_, I.len⟩
  · have z := I.base.tups b xs e
    rw [upd_ne (ne _ _ z)]
    exact z
  · have z := I.base.frzs b q u e
    rw [upd_ne (ne _ _ z)]
    exact z
  · obtain ⟨m, z⟩ := I.base.tbls b ps e
    exact ⟨m, by rw [upd_ne (ne _ _ z)]; exact z⟩
  · obtain ⟨z1, z2, z3⟩ := I.pin p q
    exact ⟨z1, by rw [upd_ne (hp p q)]; exact z2, z3⟩
  · by_cases hb : b = a
    · subst hb
      rw [upd_same] at e
      cases e
      exact ho
    · rw [upd_ne hb] at e
      exact (I.hok b u e).stay (fun _ _ _ q => q) (fun c q => by rw [upd_ne (ne _ _ q)]; exact q) fun c xs q => by rw [upd_ne (ne _ _ q)]; exact q
/-- the callee runs; its exceptions come to E' -/
theorem run_try {E' : Value → Shared → Prop} {fname : Str} {ps : List Str} {j k : Nat} {sp : Sp} {Eb : XK} {Q : VK} {e : Expr} {es : List Expr} {t : TA} {p pos : Pos} (Cc : Cal X.prog X.w X.K X.mg X.base (CXE X.prog X.w) fname ps j sp) (hr : Room k X.A) (hj : j ≤ k) (hg : Gl X fname) (ha : PA X.nox (e :: es) t)
    (I : Inv X pins σ H s) (h : t σ H fun vs H2 => sp (vs ++ []) H2 Q Eb) (hE : ∀ H2 s2 e' s', Inv X pins σ H2 s2 → CXE X.prog X.w X.stack H2 s2 Eb e' s' → E' e' s') (hdb : (fname == ("__debug__" : Str)) = false)
    (he : starEach (e :: es) X.env = (false, eval e X.env) :: starEach es X.env) (hpl : (backTo pos (starEach es X.env)).any (·.1) = false) : wpAny (model X.prog X.w) X.A (eval (.Call (.Name fname p) (e :: es) [] pos) X.env) (EP X pins σ Q) E' s := by
  obtain ⟨f, fd, F, b, kp, m, _⟩ := Cc.ex
  refine wpAny_Call_Name_kw (ld_glob I hg m ?_ hdb)
  refine PySem.W.callWith_K (h₀ := X.base) I.ok.mod.kin kp (wpAny_mono (ha pos pins s σ H _ (I.wish _) h) (fun us s1 q => ?_) fun _ _ z => False.elim z) he hpl
  obtain ⟨vs, H2, I1', r, q⟩ := q
  have I1 := I1'.unwish
  refine ⟨I1.kIn, ?_⟩
  have r2 : Vals (vs ++ []) (us ++ []) := r.append .nil
  have hl : (us ++ []).length = ps.length := by rw [← r2.length]; exact F.len _ _ _ _ q
  refine wpAny_call (codeAny_mono (F.run X.A X.stack s1 H2 ⟨us, []⟩ (us ++ []) (vs ++ []) Q Eb (hr.mono hj) I1.env0 (b s1 us I1.kIn hl) r2 q) fun r s' hq => ?_)
  cases r with
  | error e' => exact hE H2 s1 e' s' I1 hq
  | ok fl =>
    cases fl with
    | ret u => exact I1.after hq
    | next => exact False.elim hq
    | brk => exact False.elim hq
    | cont => exact False.elim hq
/-- a name has gone -/
theorem Inv.gone {h' : Heap} {t' : Nat} {m : Nat} {n : Str} {mm : Str → Option Value} {v : Option Value} (I : Inv X pins σ H s) (hN : X.N.Nodup) (hn : X.N[m]? = some n) (hm : s.heap.Ns X.env.locals mm) (hm' : h'.Ns X.env.locals (fun y => if y = n then v else mm y)) (sb : Heap.SameBut X.env.locals s.heap h') :
    Inv X pins (σ.set m none) H { s with heap := h', toks := t' } := by
  have kp : ∀ b o, b ≠ X.env.locals → s.heap.get? b = some o → h'.get? b = some o := fun b o hb e => (sb.2 b hb).trans e
  have nl : ∀ b o, X.s₀.heap.get? b = some o → b ≠ X.env.locals := fun b o e => Nat.ne_of_lt (Nat.lt_of_lt_of_le (Heap.lt_size e) I.ok.above)
  have nt : ∀ b u, H b = some u → b ≠ X.env.locals := fun b u e z => by rw [z, I.free] at e; cases e
  refine ⟨I.ok, I.os, I.bare, ⟨fun b o e n hb hx => kp b o (nl b o e) (I.base.keep b o e n hb hx), fun b o e n hb hx => ?_, I.base.free, fun b o e hx => ?_, I.base.tups, I.base.frzs, I.base.tbls⟩, ⟨_, hm', fun j y v' e1 e2 e3 => ?_⟩, fun y c e => ?_, I.free, I.freeC, fun p hp => ?_, I.hok.keptT fun b u o e q => kp b o (nt b u e) q, by rw [List.length_set]; exact I.len⟩
  · obtain ⟨sl, q⟩ := I.base.slot b o e n hb hx
    exact ⟨sl, kp b _ (nl b o e) q⟩
  · obtain ⟨o', q⟩ := I.base.there b o e hx
    exact ⟨o', kp b _ (nl b o e) q⟩
  · by_cases hj : m = j
    · subst hj
      rw [List.getElem?_set] at e2
      split at e2
      · split at e2 <;> cases e2
      · rename_i z; exact absurd rfl z
    · rw [List.getElem?_set_ne hj] at e2
      obtain ⟨m0, hm0, hl⟩ := I.loc
      obtain rfl : m0 = mm := ns_fun hm0 hm
      obtain ⟨u, r, l⟩ := hl j y v' e1 e2 e3
      refine ⟨u, r, ?_⟩
      rcases l with ⟨k, e⟩ | ⟨k, c, e, oc, h3, h4⟩
      · refine .inl ⟨k, ?_⟩
        have : y ≠ n := fun z => hj (nodup_ix hN (z ▸ hn) e1)
        simp [this, e]
      · exact .inr ⟨k, c, e, oc, kp _ _ (I.cne y c e) h3, h4⟩
  · obtain ⟨v', oc, h3, h4⟩ := I.cell y c e
    exact ⟨v', oc, kp _ _ (I.cne y c e) h3, h4⟩
  · obtain ⟨z1, z2, z3, z4⟩ := I.pin p hp
    exact ⟨kp _ _ z3 z1, z2, z3, z4⟩
/-- the reading: Eb is what the callee's exceptions come to -/
def tTry (K : PySem.W.Frag) (Y : Addr) (sp : Sp) (i m : Nat) (t : TA) (ts : TS) : TS := fun D σ H => ∃ Eb : XK, (t σ H fun vs H2 => sp (vs ++ []) H2 (fun v H3 => D.nx (σ.set i (some v)) H3) Eb) ∧
  ∀ (C : Value) (H2 : Hp), Eb C none H2 → ∃ Ca, C = .ref Ca ∧ PySem.W.exmOne K (.ref Ca) (.ref Y) = some true ∧ ∀ x, H2 x = none →
    ts { D with nx := fun σ' H' => D.nx (σ'.set m none) H', bk := fun σ' H' => D.bk (σ'.set m none) H', ct := fun σ' H' => D.ct (σ'.set m none) H' } (σ.set m (some (.ref x))) (upd H2 x (ExcO x Ca))
theorem ps_try {fname y yc n : Str} {ps : List Str} {j k i m : Nat} {sp : Sp} {e : Expr} {es : List Expr} {t : TA} {ts : TS} {Y : Addr} {b0 : Stmt} {suite : List Stmt} {p py np cpos apos hpos pos : Pos} (Cc : Cal X.prog X.w X.K X.mg X.base (CXE X.prog X.w) fname ps j sp) (hr : Room k X.A) (hN : X.N.Nodup)
    (hi : X.N[i]? = some y) (hy : Loc X.env.scope y) (hn : X.N[m]? = some n) (hnl : X.env.scope.names.lookup n = some .local) (ha : PA X.nox (e :: es) t) (hmc : X.mg yc = some (.ref Y)) (hts : ∀ x E', PSs (X.markd x E') (b0 :: suite) ts) (hst : X.stack = X.env :: X.outer := by rfl) (hfr : X.env.frame = some X.env.locals := by rfl)
    (hex : X.ex = [] := by rfl) (hj : j ≤ k := by decide) (hg : Gl X fname := by rfl) (hgc : Gl X yc := by rfl) (hdb : (fname == ("__debug__" : Str)) = false := by decide) (hdc : (yc == ("__debug__" : Str)) = false := by decide) (he : starEach (e :: es) X.env = (false, eval e X.env) :: starEach es X.env := by rfl)
    (hpl : (backTo cpos (starEach es X.env)).any (·.1) = false := by rfl) (hs : swapsWith (.Call (.Name fname p) (e :: es) [] cpos) (some (.Name y py)) apos.line X.env = pure false := by rfl) (hf : X.fn y = true ∨ X.env.scope.names.lookup y = some .local := by first | exact .inl rfl | exact .inr rfl | assumption)
    (hp : (X.env.scope.kind == .class || (X.env.scope.kind == .module && X.env.locals != X.env.globals)) = false := by rfl) :
    PS X (.Try [.Assign [.Name y py] (.Call (.Name fname p) (e :: es) [] cpos) apos] [.ExceptHandler (some (.Name yc np)) (some n) (b0 :: suite) hpos] [] [] pos) (tTry X.K Y sp i m t ts) := by
  intro pins s σ H D I h
  obtain ⟨Eb, h1, h2⟩ := h
  refine wpAny_Try_except (wpAny_execs_cons (wpAny_Assign_Name (wpAny_mono (run_try (Q := fun v H3 => D.nx (σ.set i (some v)) H3) (E' := fun e s₁ => wpAny (model X.prog X.w) X.A (noteFrame e X.env) (fun _ s₂ => wpAny (model X.prog X.w) X.A (setFlight e none) (fun _ s₃ => wpAny (model X.prog X.w) X.A (handleBy e X.env [.ExceptHandler (some (.Name yc np)) (some n) (b0 :: suite) hpos]) (SP X pins D) X.xe s₃) X.xe s₂) X.xe s₁) Cc hr hj hg ha I h1 (fun H2 s2 e' s' I1 hx => ?_) hdb he hpl) (fun v s1 q => ?_) fun _ _ z => z) hs))
  · obtain ⟨x, C, H', rfl, F, hE⟩ := hx
    obtain ⟨Ca, eC, hexm, hsuite⟩ := h2 _ _ hE
    cases eC
    obtain ⟨B, a0, fl, t1, t2⟩ := F.fl
    have fl0 := fl
    rw [hst] at fl0
    refine wpAny_looks_onW (by rw [I1.ok.frames, hst]) hfr fl0 fun h4 held4 up4 => ?_
    refine wpAny_landsW held4 fun h5 fl5 up5 => ?_
    have I5 : Inv X pins σ H' { s' with heap := h5 } := F.land I1 t1 t2 fl5.1 (up4.trans up5)
    obtain ⟨ob, hob, hobc⟩ := fl5.there
    refine wpAny_handleBy_cons (codeAny_handlers_test ?_) (by intro q; cases q)
    refine ld_glob (X := X.markd x fun _ _ => False) (I5.markd x _) hgc hmc ?_ hdc
    refine (PySem.W.exm_one I5.kIn (ExcAt.type ⟨ob, hob, hobc⟩) hexm).at ?_
    refine codeAny_handlers_suite_as ?_
    refine lands_againW fl5 fun h6 fl6 up6 => ?_
    have I6 : Inv X pins σ H' { s' with heap := h6 } := F.land I1 t1 t2 fl6.1 ((up4.trans up5).trans up6)
    obtain ⟨ob6, hob6, hobc6⟩ := fl6.there
    have out : ∀ a o, s2.heap.get? a = some o → a ≠ x := fun a o ea z => by rw [z, F.fresh] at ea; cases ea
    have n0 : X.s₀.heap.get? x = none := by
      cases z : X.s₀.heap.get? x with
      | none => rfl
      | some o =>
        obtain ⟨o1, e1⟩ := I1.base.there x o z (by rw [hex]; simp)
        exact absurd rfl (out x o1 e1)
    have I7 : Inv X pins σ (upd H' x (ExcO x C)) { s' with heap := h6 } := I6.track F.new n0 (fun z => by
        obtain ⟨mm, ⟨oL, _, _, eL, _⟩, _⟩ := I1.loc
        exact out _ _ eL z.symm) (fun yy c ec z => by
        obtain ⟨vv, oc, eo, _⟩ := I1.cell yy c ec
        exact out _ _ eo z) (fun q hq z => out _ _ (I1.pin q hq).1 z) ⟨⟨ob6, hob6, hobc6⟩, ⟨ob6, hob6⟩, fun g1 g2 p1 kk => by
        obtain ⟨o, e1, e2⟩ := p1
        exact ⟨o, kk o e1, e2⟩⟩
    refine store_ok (X := X.markd x fun _ _ => False) (I7.markd x _) hN hn (.inl hnl) (show RelV (.ref x) (.ref x) from rfl) (fun s8 I8 => ?_) (.inr hnl)
    refine wpAny_mono (hts x (fun _ _ => False) pins s8 _ _ _ I8 (hsuite x F.new)) (fun f s9 q9 => ?_) fun _ _ z => False.elim z
    have go : ∀ {σ' : St} {Hn : Hp} {G : Flow → Shared → Prop}, Inv X pins σ' Hn s9 → (∀ s10, Inv X pins (σ'.set m none) Hn s10 → G f s10) → wpAny (model X.prog X.w) X.A (do bindName X.env n .none; unbindBehindTheSuite X.env n hpos) (fun _ s₃ => G f s₃) X.xe s9 := fun {σ' Hn G} J hG => by
      obtain ⟨mm, hm, _⟩ := J.loc
      exact wpAny_nameGoes_keeps hnl hm hp fun h' v hm' sb => hG _ (J.gone hN hn hm hm' sb)
    cases f with
    | next =>
      obtain ⟨σ', Hn, J, q⟩ := q9
      exact go (J.unmark I1.ok) fun s10 J' => ⟨_, _, J', q⟩
    | brk =>
      obtain ⟨σ', Hn, J, q⟩ := q9
      exact go (G := SP X pins D) (J.unmark I1.ok) fun s10 J' => ⟨_, _, J', q⟩
    | cont =>
      obtain ⟨σ', Hn, J, q⟩ := q9
      exact go (G := SP X pins D) (J.unmark I1.ok) fun s10 J' => ⟨_, _, J', q⟩
    | ret u =>
      obtain ⟨v, σ', Hn, J, r, q⟩ := q9
      exact go (G := SP X pins D) (J.unmark I1.ok) fun s10 J' => ⟨v, _, _, J', r, q⟩
  · obtain ⟨vv, H3, I3, r3, q3⟩ := q
    exact store_ok I3 hN hi hy r3 (fun s4 I4 => wpAny_execs_nil (wpAny_execs_nil ⟨_, _, I4, q3⟩)) hf
end

/-! ### a call within an except suite: the callee raises nothing and walks nothing -/
structure RoomN (k : Nat) (A : Around) : Prop where
  dp : A.depth + 3 * k + 5 < recursionLimit
  un : A.units + 16 * k + 200 < cLine
theorem Room.toN {k : Nat} {A : Around} (r : Room k A) (h : Option Value) : RoomN k (A.mark h) := ⟨r.dp, r.un⟩
def cxN (P : Program) (w : World) (K : PySem.W.Frag) (mg : Str → Option Value) (base : Heap) (N : List Str) (qual : Str) (scope : Scope) (f : Addr) (cd : Value) (A : Around) (outer : List Env) (s : Shared) (H : Hp) : Cx :=
  { cxOf CX0 P w K mg base N qual scope f cd A outer s H E0 with calm := false, xe := fun _ _ => False }
structure CalN (P : Program) (w : World) (K : PySem.W.Frag) (mg : Str → Option Value) (base : Heap) (x : Str) (ps : List Str) (k : Nat) (sp : Sp) : Prop where
  ex : ∃ (f : Addr) (fd : FuncData), (∀ vs H Q E, sp vs H Q E → vs.length = ps.length) ∧ (∀ (A : Around) (outer : List Env) (s : Shared) (H : Hp) (args : Args) (us : List Value) (vs : List V) (Q : VK), RoomN k A → Env0 P w K mg base A outer s H → BindsTo s fd args (ps.zip us) → Vals vs us → sp vs H Q E0 →
    codeAny (model P w) A (.call (.ref f) args) (CR CX0 outer P w H s Q E0) s) ∧ Binds K fd ps [] ∧ PySem.W.keepIn K (.ref f) = true ∧ mg x = some (.ref f)
theorem Def.calN {P : Program} {w : World} {K : PySem.W.Frag} {mg : Str → Option Value} {base : Heap} {x : Str} {st : Stmt} {N ps : List Str} {k : Nat} {sp : Sp} (D : Def K mg x st) (S : FnScope N ps (defScope st))
    (hb : ∀ (kV doc pm : Value) (an : Option Addr) (cdv ct : Value) (us : List Value), us.length = ps.length → bindArgs (PySem.W.fnOf x x (defArgs st) (defBody st) (defScope st) .none kV doc pm an cdv ct) ⟨us, []⟩ = pure (ps.zip us))
    (len : ∀ vs H Q E, sp vs H Q E → vs.length = ps.length)
    (hbody : ∀ (f : Addr) (cdv : Value) (A : Around) (outer : List Env) (s : Shared) (H : Hp) (vs : List V) (Q : VK), RoomN k (A.deeper (envOfC x (defScope st) s.heap.objs.size f cdv)) → sp vs H Q E0 →
      ∃ t, PSs (cxN P w K mg base N x (defScope st) f cdv A outer s H) (defBody st) t ∧ t { nx := fun _ H' => Q .non H', rt := Q } (start N vs) H) : CalN P w K mg base x ps (k + 1) sp := by
  obtain ⟨f, fd, F, m⟩ := D.ex
  have b := F.binds hb
  have kp := F.kp
  obtain ⟨oc, od, kV, doc, pm, an, cdv, ct, osl, rfl, lk, hcd⟩ := F.ex
  refine ⟨f, _, len, fun A outer s H args us vs Q hr e0 hbd r hsp => ?_, b, kp, m⟩
  have hl := len _ _ _ _ hsp
  have KX : K.In s.heap := e0.mod.kin.keeps fun b o e => (e0.bs b o e).1
  have lim : s.heap.NoLimit := e0.mod.nolimit.keeps fun b o e => (e0.bs b o e).1
  have hkind : ∀ y ∈ ps.zip us, (defScope st).names.lookup y.1 = some .local ∨ ((defScope st).names.lookup y.1 = some .cell ∧ ((cellsFrom (s.heap.objs.size + 1) (defScope st).names []).lookup y.1).isSome = true) := fun ⟨n, v⟩ hy => by
    rcases S.par n (List.of_mem_zip hy).1 with q | q
    · exact .inl q
    · exact .inr ⟨q, PySem.W.cellsFrom_some _ _ _ (.inl q)⟩
  refine codeAny_call_function (by have := hr.dp; omega) (KX _ _ lk) rfl S.co S.gen rfl (PySem.W.codeRec_of KX hcd) (hbd _ _ _ _ ?_)
  refine wpAny_newFunctionEnv_cells S.kind hkind fun env he s1 x1 => ?_
  subst he
  refine ⟨lim.keeps x1.toInCall.keep, codeAny_func ?_⟩
  obtain ⟨t, ht, hq⟩ := hbody f cdv A outer s H vs Q ⟨by have := hr.dp; show A.depth + 1 + 3 * k + 5 < _; omega, by have := hr.un; show A.units + 3 + 16 * k + 200 < _; omega⟩ hsp
  have e1 : Env0 P w K mg base { A with handled := none } outer s H := ⟨e0.frames, e0.mod, e0.bs, e0.bsz, e0.funs, e0.frf, e0.hok, e0.bare⟩
  have I0 := inv_start (CX := CX0) (qual := x) (f := f) (cd := cdv) (E := E0) S rfl e1 hl r x1
  have I : Inv (cxN P w K mg base N x (defScope st) f cdv A outer s H) [] (start N vs) H s1 :=
    ⟨⟨I0.ok.mod, I0.ok.kind, I0.ok.glob, I0.ok.blt, I0.ok.above, I0.ok.inj, I0.ok.has, I0.ok.cab, fun h => absurd (show false = true from h) Bool.false_ne_true, Around.frames_deeper e0.frames, I0.ok.stk, I0.ok.exf, I0.ok.bs, I0.ok.bsz, I0.ok.noex, I0.ok.exfs, I0.ok.funs, I0.ok.frf⟩, I0.os, I0.bare, I0.base, I0.loc, I0.cell, I0.free, I0.freeC, I0.pin, I0.hok, I0.len⟩
  refine wpAny_mono (ht [] s1 (start N vs) H _ I hq) (fun fl s' hs => ?_) fun _ _ hs => False.elim hs
  cases fl with
  | ret u =>
    obtain ⟨v, σ', H', J, rv, q⟩ := hs
    exact ⟨v, H', J.os, J.bare, J.base, J.hok, rv, q⟩
  | next =>
    obtain ⟨σ', H', J, q⟩ := hs
    exact ⟨.non, H', J.os, J.bare, J.base, J.hok, rfl, q⟩
  | brk =>
    obtain ⟨_, _, _, q⟩ := hs
    exact False.elim q
  | cont =>
    obtain ⟨_, _, _, q⟩ := hs
    exact False.elim q
theorem pe_calN {X : Cx} {x : Str} {ps : List Str} {j k : Nat} {sp : Sp} {e : Expr} {es : List Expr} {t : TA} {p pos : Pos} (C : CalN X.prog X.w X.K X.mg X.base x ps j sp) (hr : RoomN k X.A) (ha : PA X (e :: es) t)
    (hj : j ≤ k := by decide) (hg : Gl X x := by rfl) (hdb : (x == ("__debug__" : Str)) = false := by decide) (he : starEach (e :: es) X.env = (false, eval e X.env) :: starEach es X.env := by rfl) (hpl : (backTo pos (starEach es X.env)).any (·.1) = false := by rfl) :
    PE X (.Call (.Name x p) (e :: es) [] pos) (tCall sp [] E0 t) := by
  obtain ⟨f, fd, len, F, b, kp, m⟩ := C.ex
  intro pins s σ H Q I h
  refine wpAny_Call_Name_kw (ld_glob I hg m ?_ hdb)
  refine PySem.W.callWith_K (h₀ := X.base) I.ok.mod.kin kp (thn (ha pos pins s σ H _ I h) fun us s1 ⟨vs, H1, I1, r, q⟩ => ⟨I1.kIn, ?_⟩) he hpl
  have r2 : Vals (vs ++ []) (us ++ []) := r.append .nil
  have hl : (us ++ []).length = ps.length := by rw [← r2.length]; exact len _ _ _ _ q
  refine wpAny_call (codeAny_mono (F X.A X.stack s1 H1 ⟨us, []⟩ (us ++ []) (vs ++ []) Q ⟨by have := hr.dp; omega, by have := hr.un; omega⟩ I1.env0 (b s1 us I1.kIn hl) r2 q) fun r s' hq => ?_)
  cases r with
  | error e' => exact False.elim hq
  | ok fl =>
    cases fl with
    | ret u => exact I1.after hq
    | next => exact False.elim hq
    | brk => exact False.elim hq
    | cont => exact False.elim hq
end L2

/-! COMPREHENSIONS of one clause, over the layer, where no exception leaves. -/
namespace L2
open PySem PySem.Spec PyProof.Rows
/-- the block's context: its names are the clause's own and outer ones by their slots -/
def compCx (X : Cx) (x : Str) (slots : List Nat) (scope : Scope) (cl : List (Str × Addr)) (C : Addr) (s2 : Shared) (H2 : Hp) (fp : List Addr) (pn : List (Addr × Obj)) : Cx :=
  { X with N := x :: slots.map (fun k => X.N.getD k ""), s₀ := s2, H₀ := H2, env := compEnvC scope cl C X.env, outer := X.stack, stack := X.stack, ex := fp, fn := fun _ => false, pn := pn }
def outs (σ : St) (slots : List Nat) : St := slots.map fun k => (σ[k]?).getD none
def SlotsOk (X : Cx) (scope : Scope) : List Nat → Prop
  | [] => True
  | k :: r => (X.env.kindOf (X.N.getD k "") = some .cell ∧ (relabel scope X.env).names.lookup (X.N.getD k "") = some .cell) ∧ SlotsOk X scope r
theorem SlotsOk.mem {X : Cx} {scope : Scope} : ∀ {slots : List Nat}, SlotsOk X scope slots → ∀ k ∈ slots, X.env.kindOf (X.N.getD k "") = some .cell ∧ (relabel scope X.env).names.lookup (X.N.getD k "") = some .cell
  | _ :: _, h, k, hk => by
    rcases List.mem_cons.mp hk with rfl | hk
    · exact h.1
    · exact SlotsOk.mem h.2 k hk
def CellsIn (cl cells : List (Str × Addr)) : Prop := ∀ y c, cl.lookup y = some c → cells.lookup y = some c
theorem cells_nil {cells : List (Str × Addr)} : CellsIn [] cells := fun _ _ h => nomatch h
theorem cells_cons {cl cells : List (Str × Addr)} {a : Str} {c : Addr} (h : cells.lookup a = some c) (t : CellsIn cl cells) : CellsIn ((a, c) :: cl) cells := fun y d q => by
  rw [List.lookup_cons] at q
  cases e : y == a with
  | true =>
    rw [e] at q
    cases q
    rw [beq_iff_eq.mp e]
    exact h
  | false =>
    rw [e] at q
    exact t y d q
/-- every name that is not the clause's own has its cell -/
def HasCells (cl : List (Str × Addr)) (names : List (Str × NameKind)) : Prop := ∀ y, (names.lookup y = some .cell ∨ names.lookup y = some .free) → ∃ c, cl.lookup y = some c
theorem has_nil {cl : List (Str × Addr)} : HasCells cl [] := fun _ h => by rcases h with h | h <;> cases h
theorem has_cons {cl : List (Str × Addr)} {a : Str} {k : NameKind} {r : List (Str × NameKind)} (h : (k = .cell ∨ k = .free) → ∃ c, cl.lookup a = some c) (t : HasCells cl r) : HasCells cl ((a, k) :: r) := fun y q => by
  rw [List.lookup_cons] at q
  cases e : y == a with
  | true =>
    rw [e] at q
    rw [beq_iff_eq.mp e]
    refine h ?_
    rcases q with q | q
    · exact .inl (Option.some.inj q)
    · exact .inr (Option.some.inj q)
  | false =>
    rw [e] at q
    exact t y q
/-- one turn of the clause: the tests, then the item -/
abbrev TTn := St → Hp → (Option V → Hp → Prop) → Prop
def PTn (X : Cx) (ifs : List Expr) (elt : Expr) (t : TTn) : Prop :=
  ∀ (pins : List (Addr × Obj)) (s : Shared) (σ : St) (H : Hp) (R : Option V → Hp → Prop), Inv X pins σ H s → t σ H R →
    wpAny (model X.prog X.w) X.A (forIn ifs true fun c r => if r = true then do let ok ← isTrue c X.env (eval c X.env); pure (ForInStep.yield ok) else pure (ForInStep.yield r))
      (fun ok s1 => if ok = true then wpAny (model X.prog X.w) X.A (eval elt X.env) (EP X pins σ fun y H' => R (some y) H') X.xe s1 else ∃ H', Inv X pins σ H' s1 ∧ R none H') X.xe s
theorem ptn0 {X : Cx} {elt : Expr} {te : TE} (he : PE X elt te) : PTn X [] elt (fun σ H R => te σ H fun y H' => R (some y) H') := fun pins s σ H R I h =>
  wpAny_tests_nil (by
    rw [if_pos rfl]
    exact he pins s σ H _ I h)
theorem ptn1 {X : Cx} {elt c : Expr} {te : TE} {tc : TT} (hc : PT X c tc) (he : PE X elt te) : PTn X [c] elt (fun σ H R => tc σ H fun b H1 => if b = true then te σ H1 fun y H' => R (some y) H' else R none H1) := fun pins s σ H R I h =>
  wpAny_tests_one (thn (hc pins s σ H _ I h) fun b s1 ⟨H1, I1, q⟩ => by
    cases b with
    | true =>
      rw [if_pos rfl]
      rw [if_pos rfl] at q
      exact he pins s1 σ H1 _ I1 q
    | false =>
      rw [if_neg Bool.false_ne_true]
      rw [if_neg Bool.false_ne_true] at q
      exact ⟨H1, I1, q⟩)
/-- the reading of a comprehension: n turns at most; W what holds ahead of turn i with ys so far -/
def tComp (slots : List Nat) (wi : TI) (tt : TTn) : TE := fun σ H Q => wi σ H fun J H1 => ∃ (n : Nat) (W : Nat → List V → Hp → Prop), n ≤ 1000000 ∧ W 0 [] H1 ∧
  (∀ i ys H', i < n → W i ys H' → J.go i H' ∧ ∀ v H2, J.yld i H' v H2 → tt (some v :: outs σ slots) H2 fun y H3 => match y with | some y => W (i + 1) (ys ++ [y]) H3 | none => W (i + 1) ys H3) ∧
  (∀ ys H', W n ys H' → J.stop n H' ∧ ∀ D, H' D = none → Q (.ref D) (upd H' D (.lst ys)))
section
variable {X : Cx} {elt iter : Expr} {ifs : List Expr} {x : Str} {px pos : Pos} {scope : Scope} {cl : List (Str × Addr)} {slots : List Nat} {wi : TI} {tt : TTn}
theorem comp_cx {pins : List (Addr × Obj)} {σ : St} {H2 : Hp} {s2 : Shared} {fp : List Addr} {h1 : Heap} {tk : Nat} {m : Str → Option Value} {C : Addr} (I2 : Inv X pins σ H2 s2) (hkind : scope.kind = .function) (hin : CellsIn cl X.env.cells) (hhas : HasCells cl (relabel scope X.env).names) (hsl : SlotsOk X scope slots)
    (f2 : ∀ b ∈ fp, FpOk X pins H2 b) (hfs : ∀ b ∈ fp, b < s2.heap.objs.size) (hC : s2.heap.objs.size < C) (hnC : h1.Ns C m) (k : ∀ b o, s2.heap.get? b = some o → h1.get? b = some o) :
    Inv (compCx X x slots scope cl C s2 H2 fp (X.pn ++ pins)) [] (none :: outs σ slots) H2 { s2 with heap := h1, toks := tk } := by
  have fsub : ∀ b, b ∈ frs X.stack → b = X.env.locals ∨ b ∈ X.fs := fun b hb => by
    rcases List.mem_cons.mp (I2.stkSub b hb) with z | z
    · exact .inl z
    · exact .inr z
  have ncl : ∀ y c, cl.lookup y = some c → c < s2.heap.objs.size := fun y c e => by
    obtain ⟨v, q⟩ := I2.cell y c (hin y c e)
    exact q.lt
  refine ⟨⟨I2.ok.mod, hkind, I2.ok.glob, I2.ok.blt, Nat.le_of_lt hC, fun y z c e1 e2 => I2.ok.inj y z c (hin y c e1) (hin z c e2), fun y hy => hhas y hy, fun y c hf _ => (nomatch (show false = true from hf)), I2.ok.hd, I2.ok.frames, .inl rfl, fun b hb => ⟨?_, fun y c e z => ?_⟩, I2.bs, Nat.le_trans I2.ok.bsz I2.sz, fun b o e hb => ?_, fun b hb z => ?_, I2.stack, I2.stkFree⟩,
    rfl, I2.bare, Un.kept k, ⟨m, hnC, fun i y v e1 e2 e3 => ?_⟩, fun y c e => ?_, I2.hok.fresh (Nat.le_of_lt hC), fun y c e => I2.freeC y c (hin y c e), fun p hp => ?_, I2.hok.kept k, ?_⟩
  · exact Nat.ne_of_lt (Nat.lt_trans (hfs b hb) hC)
  · exact (f2 b hb).2.2.2.2.1 y c (hin y c e) z
  · have q := (f2 b hb).2.2.2.1
    rcases q with q | q
    · exact I2.ok.noex b o e q
    · exact absurd (Nat.lt_of_lt_of_le (Heap.lt_size e) I2.ok.bsz) (Nat.not_lt.mpr q)
  · rcases fsub b z with z | z
    · exact (f2 b hb).2.1 z
    · exact (f2 b hb).2.2.1 z
  · cases i with
    | zero => cases e2
    | succ j =>
      have e1' : (slots.map (fun k => X.N.getD k ""))[j]? = some y := e1
      have e2' : (outs σ slots)[j]? = some (some v) := e2
      unfold outs at e2'
      rw [List.getElem?_map] at e1' e2'
      cases hk : slots[j]? with
      | none => rw [hk] at e1'; cases e1'
      | some q =>
        rw [hk] at e1' e2'
        have y1 : X.N.getD q "" = y := Option.some.inj e1'
        have y2 : (σ[q]?).getD none = some v := Option.some.inj e2'
        have y3 : σ[q]? = some (some v) := by
          cases z : σ[q]? with
          | none => rw [z] at y2; cases y2
          | some o => rw [z] at y2; exact congrArg some y2
        have ql : q < X.N.length := by
          rw [← I2.len]
          exact (List.getElem?_eq_some_iff.mp y3).1
        have y4 : X.N[q]? = some y := by
          rw [← y1, List.getD_eq_getElem?_getD, List.getElem?_eq_getElem ql]
          rfl
        obtain ⟨a1, a2⟩ := hsl.mem q (List.mem_of_getElem? hk)
        rw [y1] at a1 a2
        obtain ⟨m0, _, hl⟩ := I2.loc
        obtain ⟨u, r, l⟩ := hl q y v y4 y3 (.inr (.inl a1))
        refine ⟨u, r, .inr ⟨.inl a2, ?_⟩⟩
        rcases l with ⟨kk, _⟩ | ⟨_, c, ec, ic⟩
        · rw [a1] at kk; cases kk
        · obtain ⟨c', ec'⟩ := hhas y (.inl a2)
          have z := hin y c' ec'
          rw [ec] at z
          cases z
          obtain ⟨oc, h3, h4⟩ := ic
          exact ⟨c, ec', oc, k _ _ h3, h4⟩
  · obtain ⟨v, oc, h3, h4⟩ := I2.cell y c (hin y c e)
    exact ⟨v, oc, k _ _ h3, h4⟩
  · have hp' : p ∈ X.pn ++ pins := by
      have z : p ∈ (X.pn ++ pins) ++ [] := hp
      rw [List.append_nil] at z
      exact z
    obtain ⟨q1, q2, q3, q4, q5⟩ := I2.pin p hp'
    refine ⟨k _ _ q1, q2, Nat.ne_of_lt (Nat.lt_trans (Heap.lt_size q1) hC), fun z => ?_, q5⟩
    rcases fsub _ z with z | z
    · exact q3 z
    · exact q4 z
  · show (none :: outs σ slots).length = (x :: slots.map (fun k => X.N.getD k "")).length
    unfold outs
    simp
/-- from the block back to the body -/
theorem comp_back {pins ps : List (Addr × Obj)} {σ σc : St} {H2 H' : Hp} {s2 s' : Shared} {fp : List Addr} {C D : Addr} {pn : List (Addr × Obj)} {h'' : Heap} {ys : List V} {its : List Value} {n : Nat} (I2 : Inv X pins σ H2 s2) (J : Inv (compCx X x slots scope cl C s2 H2 fp pn) ps σc H' s')
    (f2 : ∀ b ∈ fp, FpOk X pins H2 b) (hC : s2.heap.objs.size < C) (hD : s2.heap.objs.size ≤ D) (hDC : D ≠ C) (hs : Heap.SameBut C s'.heap h'') (hf : H' D = none) (hv : Vals ys its) (hz : ys.length ≤ sizeLine)
    (eD : s'.heap.get? D = some { cls := .type "list", data := .seq its.toArray n }) : Inv X pins σ (upd H' D (.lst ys)) { s' with heap := h'' } := by
  have nC : H' C = none := J.free
  have other : ∀ b o, b ≠ C → s'.heap.get? b = some o → h''.get? b = some o := fun b o hb e => (hs.2 b hb).trans e
  have hok : HOk X.prog X.w H' h'' := J.hok.keptT fun b u o e q => other b o (fun z => by rw [z, nC] at e; cases e) q
  have old : ∀ b o, s2.heap.get? b = some o → b ≠ C := fun b o e => Nat.ne_of_lt (Nat.lt_trans (Heap.lt_size e) hC)
  have oldD : ∀ b o, s2.heap.get? b = some o → b ≠ D := fun b o e => Nat.ne_of_lt (Nat.lt_of_lt_of_le (Heap.lt_size e) hD)
  have U : Un (frs X.stack) fp H2 H' s2.heap s'.heap := J.base
  have nD : ∀ b u, H' b = some u → b ≠ D := fun b u e z => by rw [z, hf] at e; cases e
  have U2 : Un (frs X.stack) fp H2 (upd H' D (.lst ys)) s2.heap h'' := ⟨fun b o e n hb hx => other b o (old b o e) (U.keep b o e n hb hx), fun b o e n hb hx => by
      obtain ⟨sl, q⟩ := U.slot b o e n hb hx
      exact ⟨sl, other b _ (old b o e) q⟩, fun b o e n hx => by rw [upd_ne (oldD b o e)]; exact U.free b o e n hx, fun b o e hx => by
      obtain ⟨o', q⟩ := U.there b o e hx
      exact ⟨o', other b o' (old b o e) q⟩, fun b xs e => by
      have q := U.tups b xs e
      rw [upd_ne (nD b _ q)]
      exact q, fun b o u e => by
      have q := U.frzs b o u e
      rw [upd_ne (nD b _ q)]
      exact q, fun b qs e => by
      obtain ⟨m, q⟩ := U.tbls b qs e
      exact ⟨m, by rw [upd_ne (nD b _ q)]; exact q⟩⟩
  have hok2 : HOk X.prog X.w (upd H' D (.lst ys)) h'' := fun b u e => by
    by_cases hb : b = D
    · subst hb
      rw [upd_same] at e
      cases e
      exact ⟨hz, its, n, hv, other b _ hDC eD⟩
    · rw [upd_ne hb] at e
      exact (hok b u e).stay (fun _ _ _ q => q) (fun c q => by rw [upd_ne (nD c _ q)]; exact q) fun c xs q => by rw [upd_ne (nD c _ q)]; exact q
  refine I2.call' (s' := { s' with heap := h'' }) (ch := fp) J.os U2 hok2 J.bare fun b hb => ?_
  obtain ⟨_, q1, _, q2, q3, q4⟩ := f2 b hb
  exact ⟨q2, q1, q3, q4⟩

/-- the loop of the block; RR: what is wanted of the made list -/
theorem comp_loop {pins : List (Addr × Obj)} {σ : St} {H2 : Hp} {s2 s4 : Shared} {it C : Addr} {fp : List Addr} {tn : Nat → Heap → Prop} {J : It} {n : Nat} {W : Nat → List V → Hp → Prop} {RR : Result → Shared → Prop} {D : Addr}
    (hc : X.calm = true) (hxe : ∀ e s, ¬ X.xe e s) (hnd : (x :: slots.map (fun k => X.N.getD k "")).Nodup) (hx : scope.names.lookup x = some .local) (I2 : Inv X pins σ H2 s2) (T : Turn X.prog X.w X.K (.Name x px) J fp it tn)
    (f2 : ∀ b ∈ fp, FpOk X pins H2 b) (hfs : ∀ b ∈ fp, b < s2.heap.objs.size) (hC : s2.heap.objs.size < C) (hD : s2.heap.objs.size ≤ D) (hDC : D ≠ C)
    (I4 : Inv (compCx X x slots scope cl C s2 H2 fp (X.pn ++ pins)) [] (none :: outs σ slots) H2 s4) (st4 : tn 0 s4.heap) (fr4 : ∀ b ∈ fp, H2 b = none) (eD4 : s4.heap.get? D = some { cls := .type "list", data := .seq #[] 0 }) (fD4 : H2 D = none)
    (ht : ∀ fp' pn, PTn (compCx X x slots scope cl C s2 H2 fp' pn) ifs elt tt) (hn : n ≤ 1000000) (w0 : W 0 [] H2)
    (turn : ∀ i ys H', i < n → W i ys H' → J.go i H' ∧ ∀ v H3, J.yld i H' v H3 → tt (some v :: outs σ slots) H3 fun y H4 => match y with | some y => W (i + 1) (ys ++ [y]) H4 | none => W (i + 1) ys H4)
    (stop : ∀ ys H', W n ys H' → J.stop n H')
    (fin : ∀ ys its k ps σc H' s', W n ys H' → Inv (compCx X x slots scope cl C s2 H2 fp (X.pn ++ pins)) ps σc H' s' → H' D = none → Vals ys its → ys.length ≤ sizeLine → s'.heap.get? D = some { cls := .type "list", data := .seq its.toArray k } → RR (.ok .next) s') :
    codeAny (model X.prog X.w) X.A (.compLoop (.ListComp elt [⟨.Name x px, iter, ifs, 0⟩] scope pos) 0 (.ref it) (.ref D) (compEnvC scope cl C X.env)) RR s4 := by
  have hln : (n : Nat) < sizeLine := by have : sizeLine = 16777216 := sizeLine_eq; omega
  have fpok : ∀ (H' : Hp) (ps : List (Addr × Obj)), (∀ p ∈ ps, p.1 ∉ fp) → (∀ b ∈ fp, H' b = none) → ∀ b ∈ fp, FpOk (compCx X x slots scope cl C s2 H2 fp (X.pn ++ pins)) ps H' b := fun H' ps hps hn b hb => by
    obtain ⟨_, q1, q2, _, q3, q4⟩ := f2 b hb
    refine ⟨hn b hb, (I4.ok.exf b hb).1, I4.ok.exfs b hb, .inl hb, (I4.ok.exf b hb).2, fun p hp z => ?_⟩
    rcases List.mem_append.mp hp with w | w
    · exact q4 p w z
    · exact hps p w (by rw [z]; exact hb)
  have nDfp : D ∉ fp := fun z => absurd (hfs D z) (Nat.not_lt.mpr hD)
  have nDfs : D ∉ (compCx X x slots scope cl C s2 H2 fp (X.pn ++ pins)).fs := fun z => by
    obtain ⟨_, o, ho, _⟩ := I4.ok.funs.mem z
    exact absurd (Heap.lt_size ho) (Nat.not_lt.mpr hD)
  have nDcl : ∀ y c, cl.lookup y = some c → c ≠ D := fun y c e z => by
    obtain ⟨v, q⟩ := I4.cell y c e
    have q2 : ∃ w, s4.heap.IsCell D w := ⟨v, by rw [← z]; exact q⟩
    obtain ⟨w, oc, h3, h4⟩ := q2
    rw [eD4] at h3
    cases h3
    cases h4
  have nDpn : ∀ p ∈ X.pn ++ pins, p.1 ≠ D := fun p hp z => absurd (Heap.lt_size (I2.pin p hp).1) (by rw [z]; exact Nat.not_lt.mpr hD)
  refine codeAny_compLoop_tests (fun k s' => ∃ i ys its q z H', k = n - i ∧ i ≤ n ∧ ys.length ≤ i ∧ Inv (compCx X x slots scope cl C s2 H2 fp (X.pn ++ pins)) [] (z :: outs σ slots) H' s' ∧ tn i s'.heap ∧ (∀ b ∈ fp, H' b = none) ∧
    s'.heap.get? D = some { cls := .type "list", data := .seq (its : List Value).toArray q } ∧ H' D = none ∧ Vals ys its ∧ W i ys H') ?_ n ⟨0, [], [], 0, none, H2, rfl, Nat.zero_le _, Nat.le_refl _, I4, st4, fr4, eD4, fD4, .nil, w0⟩
  rintro k s' ⟨i, ys, its, q, z, H', rfl, hi, hyl, J1, st1, fr1, eD, fD, hv, w⟩
  have JD : Inv (compCx X x slots scope cl C s2 H2 fp (X.pn ++ pins)) [(D, { cls := .type "list", data := .seq its.toArray q })] (z :: outs σ slots) H' s' := J1.pins_of fun p hp => by
    rw [List.mem_singleton.mp hp]
    exact ⟨eD, fD, hDC, nDfs, fun v e => by cases e⟩
  have nps : ∀ p ∈ ([(D, { cls := .type "list", data := .seq its.toArray q })] : List (Addr × Obj)), p.1 ∉ fp := fun p hp => by
    rw [List.mem_singleton.mp hp]
    exact nDfp
  by_cases hlt : i < n
  · obtain ⟨go, step⟩ := turn i ys H' hlt w
    refine thn (T.item (compCx X x slots scope cl C s2 H2 fp (X.pn ++ pins)) rfl rfl rfl hc i _ s' _ H' _ JD (fpok H' _ nps fr1) st1 go) fun r s1 hr => ?_
    obtain ⟨u, er, h4⟩ := hr
    subst er
    show wpAny _ _ (letOwnedTupleGo (.Name x px) (.ref it) u >>= fun _ => assign (.Name x px) (compEnvC scope cl C X.env) u) _ _ s1
    refine wpAny_bind (thn h4 fun _ s5 ⟨v, H5, J5, r5, y5, st5, fr5⟩ => ?_)
    have eD5 := (J5.pin (D, _) (List.mem_append_right _ (List.mem_singleton.mpr rfl))).1
    have fD5 := (J5.pin (D, _) (List.mem_append_right _ (List.mem_singleton.mpr rfl))).2.1
    have J5' := J5.pinned (fpok H5 _ nps fr5) (T.obj _ _ st5)
    have keepAll : ∀ (H7 : Hp) (s7 : Shared) (σ7 : St), Inv (compCx X x slots scope cl C s2 H2 fp (X.pn ++ pins)) ([(D, { cls := .type "list", data := .seq its.toArray q })] ++ pinsAt fp s5.heap) σ7 H7 s7 → tn (i + 1) s7.heap ∧ (∀ b ∈ fp, H7 b = none) ∧ s7.heap.get? D = some { cls := .type "list", data := .seq its.toArray q } ∧ H7 D = none := fun H7 s7 σ7 J7 => by
      have at_ : ∀ b ∈ fp, ∀ o, s5.heap.get? b = some o → s7.heap.get? b = some o ∧ H7 b = none := fun b hb o e => by
        have z := J7.pin (b, o) (List.mem_append_right _ (List.mem_append_right _ (mem_pinsAt hb e)))
        exact ⟨z.1, z.2.1⟩
      have zD := J7.pin (D, { cls := .type "list", data := .seq its.toArray q }) (List.mem_append_right _ (List.mem_append_left _ (List.mem_singleton.mpr rfl)))
      refine ⟨T.keep _ _ _ st5 fun b hb o e => (at_ b hb o e).1, fun b hb => ?_, zD.1, zD.2.1⟩
      obtain ⟨o, e, _⟩ := T.obj _ _ st5 b hb
      exact (at_ b hb o e).2
    refine wpAny_mono (pg_name (X := compCx X x slots scope cl C s2 H2 fp (X.pn ++ pins)) (i := 0) hnd rfl (.inl (lookup_relabel_local hx)) (.inr (lookup_relabel_local hx)) _ s5 _ H5 v u (fun σ6 H6 => σ6 = some v :: outs σ slots ∧ H6 = H5) J5' r5 ⟨rfl, rfl⟩) (fun _ s6 q6 => ?_) fun e s q => (hxe e s q).elim
    obtain ⟨σ6, H6, J6, rfl, rfl⟩ := q6
    refine wpAny_mono (ht fp (X.pn ++ pins) _ s6 _ _ _ J6 (step v _ y5)) (fun ok s7 q7 => ?_) fun e s q => (hxe e s q).elim
    cases ok with
    | false =>
      rw [if_neg Bool.false_ne_true] at q7 ⊢
      obtain ⟨H7, J7, w7⟩ := q7
      obtain ⟨st7, fr7, eD7, fD7⟩ := keepAll H7 s7 _ J7
      exact ⟨n - (i + 1), by omega, i + 1, ys, its, q, some v, H7, rfl, hlt, Nat.le_succ_of_le hyl, J7.pins_of (fun _ z => nomatch z), st7, fr7, eD7, fD7, hv, w7⟩
    | true =>
      rw [if_pos rfl] at q7 ⊢
      refine wpAny_mono q7 (fun y s8 q8 => ?_) fun e s q => (hxe e s q).elim
      obtain ⟨yv, H8, J8, r8, w8⟩ := q8
      obtain ⟨st8, fr8, eD8, fD8⟩ := keepAll H8 s8 _ J8
      have hl := hv.length
      refine append_at (hsz := by rw [List.size_toArray]; omega) eD8 fun h9 hs9 hD9 => ?_
      have J9 : Inv (compCx X x slots scope cl C s2 H2 fp (X.pn ++ pins)) [] (some v :: outs σ slots) H8 { s8 with heap := h9 } := (J8.pins_of (pins' := []) (fun _ z => nomatch z)).turned (it := D) (t' := s8.toks) (fun b o hb e => (hs9.2 b hb).trans e) fD8 hDC (.inr hD) nDcl (fun p hp => nDpn p (by
        have z : p ∈ (X.pn ++ pins) ++ [] := hp
        rw [List.append_nil] at z
        exact z))
      refine ⟨n - (i + 1), by omega, i + 1, ys ++ [yv], its ++ [y], q + 1, some v, H8, rfl, hlt, by rw [List.length_append, List.length_singleton]; omega, J9, T.keep _ _ _ st8 (fun b hb o e => (hs9.2 b (fun z => nDfp (by rw [← z]; exact hb))).trans e), fr8, ?_, fD8, hv.append (.cons r8 .nil), w8⟩
      rw [show (its ++ [y]).toArray = its.toArray.push y by simp]
      exact hD9
  · obtain rfl : i = n := Nat.le_antisymm hi (Nat.not_lt.mp hlt)
    refine thn (T.done (compCx X x slots scope cl C s2 H2 fp (X.pn ++ pins)) rfl rfl rfl hc i _ s' _ H' _ JD (fpok H' _ nps fr1) st1 (stop ys H' w)) fun r s1 hr => ?_
    obtain ⟨er, J9⟩ := hr
    subst er
    have e9 := J9.pin (D, _) (List.mem_append_right _ (List.mem_singleton.mpr rfl))
    exact fin ys its q _ _ H' s1 w J9 e9.2.1 hv (Nat.le_trans hyl (Nat.le_of_lt hln)) e9.1

/-- the block's start, for both uses -/
theorem comp_start {pins : List (Addr × Obj)} {σ : St} {s2 : Shared} {it : Addr} {fp : List Addr} {tn : Nat → Heap → Prop} {J : It} {H2 : Hp} {n : Nat} {W : Nat → List V → Hp → Prop} {RR : Addr → Addr → Result → Shared → Prop} {E : Value → Shared → Prop}
    (hc : X.calm = true) (hxe : ∀ e s, ¬ X.xe e s) (hcell : ∀ y ∈ scope.names, y.2 ≠ .cell) (hkind : scope.kind = .function) (hx : scope.names.lookup x = some .local) (hin : CellsIn cl X.env.cells) (hhas : HasCells cl (relabel scope X.env).names) (hsl : SlotsOk X scope slots)
    (hnd : (x :: slots.map (fun k => X.N.getD k "")).Nodup) (ht : ∀ C s2 H2 fp pn, PTn (compCx X x slots scope cl C s2 H2 fp pn) ifs elt tt) (I2 : Inv X pins σ H2 s2) (T : Turn X.prog X.w X.K (.Name x px) J fp it tn) (st2 : tn 0 s2.heap) (f2 : ∀ b ∈ fp, FpOk X pins H2 b)
    (hn : n ≤ 1000000) (w0 : W 0 [] H2)
    (turn : ∀ i ys H', i < n → W i ys H' → J.go i H' ∧ ∀ v H3, J.yld i H' v H3 → tt (some v :: outs σ slots) H3 fun y H4 => match y with | some y => W (i + 1) (ys ++ [y]) H4 | none => W (i + 1) ys H4)
    (stop : ∀ ys H', W n ys H' → J.stop n H')
    (fin : ∀ C D ys its k ps σc H' s', s2.heap.objs.size < C → s2.heap.objs.size ≤ D → D ≠ C → (∀ b ∈ fp, b < s2.heap.objs.size) → W n ys H' → Inv (compCx X x slots scope cl C s2 H2 fp (X.pn ++ pins)) ps σc H' s' → H' D = none → Vals ys its → ys.length ≤ sizeLine →
      s'.heap.get? D = some { cls := .type "list", data := .seq its.toArray k } → RR D C (.ok .next) s') :
    wpAny (model X.prog X.w) X.A (newList []) (fun acc s3 => wpAny (model X.prog X.w) X.A (newFunctionEnv scope X.env.globals cl [] X.env.qual none .none (some X.env)) (fun cenv s4 =>
      codeAny (model X.prog X.w) X.A (.compStart (.ListComp elt [⟨.Name x px, iter, ifs, 0⟩] scope pos) 0 (.ref it) acc { cenv with scope := relabel scope X.env }) (fun r s' => ∃ D, acc = .ref D ∧ RR D cenv.locals r s') s4) E s3) E s2 := by
  refine wpAny_newObj_type (wpAny_newFunctionEnv hcell (by intro y hy; simp at hy) (fun h1 hns hsb => ?_) hkind)
  dsimp only at hns hsb ⊢
  have hfs : ∀ b ∈ fp, b < s2.heap.objs.size := fun b hb => by
    obtain ⟨o, e, _⟩ := T.obj _ _ st2 b hb
    exact Heap.lt_size e
  have hsz : (s2.heap.push ({ cls := .type "list", dict := none, data := .seq ([] : List Value).toArray } : Obj)).objs.size = s2.heap.objs.size + 1 := Heap.size_push _ _
  have old : ∀ b o, s2.heap.get? b = some o → h1.get? b = some o := fun b o e => by
    refine hsb.extBut b o ?_ (Heap.get?_push_of_some _ (Heap.get?_push_of_some _ e))
    rw [hsz]
    exact Nat.ne_of_lt (Nat.lt_succ_of_lt (Heap.lt_size e))
  have eD : h1.get? s2.heap.objs.size = some { cls := .type "list", data := .seq #[] 0 } := by
    refine hsb.extBut _ _ ?_ (Heap.get?_push_of_some _ (Heap.get?_push_size _ rfl))
    rw [hsz]
    exact Nat.ne_of_lt (Nat.lt_succ_self _)
  rw [hsz] at hns ⊢
  have fD : H2 s2.heap.objs.size = none := I2.hok.fresh (Nat.le_refl _)
  have I4 := comp_cx (x := x) (slots := slots) (tk := s2.toks + ([] : List (Str × Value)).length) I2 hkind hin hhas hsl f2 hfs (Nat.lt_succ_self _) hns old
  have st4 : tn 0 h1 := T.keep _ _ _ st2 fun b _ o e => old b o e
  have loop : ∀ s4 : Shared, s4 = { s2 with heap := h1, toks := s2.toks + ([] : List (Str × Value)).length } →
      codeAny (model X.prog X.w) X.A (.compLoop (.ListComp elt [⟨.Name x px, iter, ifs, 0⟩] scope pos) 0 (.ref it) (.ref s2.heap.objs.size) (compEnvC scope cl (s2.heap.objs.size + 1) X.env))
        (fun r s' => ∃ D, Value.ref s2.heap.objs.size = .ref D ∧ RR D (s2.heap.objs.size + 1) r s') s4 := by
    rintro s4 rfl
    exact comp_loop hc hxe hnd hx I2 T f2 hfs (Nat.lt_succ_self _) (Nat.le_refl _) (Nat.ne_of_lt (Nat.lt_succ_self _)) I4 st4 (fun b hb => (f2 b hb).1) eD fD (fun fp' pn => ht _ _ _ fp' pn) hn w0 turn stop
      fun ys its k ps σc H' s' a1 a2 a3 a4 a5 a6 => ⟨_, rfl, fin _ _ ys its k ps σc H' s' (Nat.lt_succ_self _) (Nat.le_refl _) (Nat.ne_of_lt (Nat.lt_succ_self _)) hfs a1 a2 a3 a4 a5 a6⟩
  exact codeAny_compStart_list (loop _ rfl) (T.self _ 0 _ _ _ st4 (loop _ rfl))
/-- [elt for x in iter if ..] as a value -/
theorem pe_comp (hi : PI X (.Name x px) iter wi) (ht : ∀ C s2 H2 fp pn, PTn (compCx X x slots scope cl C s2 H2 fp pn) ifs elt tt) (hc : X.calm = true := by rfl) (hxe : ∀ e s, ¬ X.xe e s := by exact fun _ _ h => h) (hclos : closureFor scope X.env = pure cl := by rfl)
    (hcell : ∀ y ∈ scope.names, y.2 ≠ .cell := by decide +kernel) (hkind : scope.kind = .function := by rfl) (hnames : ∀ y ∈ scope.names, y.2 = .local → scope.names.lookup y.1 = some .local := by decide +kernel) (hx : scope.names.lookup x = some .local := by rfl)
    (hin : CellsIn cl X.env.cells := by first | exact cells_nil | exact cells_cons rfl cells_nil | exact cells_cons rfl (cells_cons rfl cells_nil) | exact cells_cons rfl (cells_cons rfl (cells_cons rfl cells_nil)))
    (hhas : HasCells cl (relabel scope X.env).names := by (repeat (refine has_cons (fun h => by first | exact ⟨_, rfl⟩ | (rcases h with h | h <;> cases h)) ?_)); exact has_nil)
    (hsl : SlotsOk X scope slots := by first | exact trivial | exact ⟨⟨rfl, rfl⟩, trivial⟩ | exact ⟨⟨rfl, rfl⟩, ⟨rfl, rfl⟩, trivial⟩ | exact ⟨⟨rfl, rfl⟩, ⟨rfl, rfl⟩, ⟨rfl, rfl⟩, trivial⟩)
    (hnd : (x :: slots.map (fun k => X.N.getD k "")).Nodup := by decide +kernel) (hs : ∀ v, foldedSetIterable iter X.env v = pure v := by intro _; rfl) :
    PE X (.ListComp elt [⟨.Name x px, iter, ifs, 0⟩] scope pos) (tComp slots wi tt) := by
  intro pins s σ H Q I h
  rw [eval_ListComp]
  refine wpAny_comprehension_free (use := none) rfl hs hclos hkind hnames (thn (hi pins s σ H _ I h) fun v s1 h1 => thn h1 fun itv s2 h2 => ?_)
  obtain ⟨it, fp, tn, J, H2, e, I2, T, st2, f2, n, W, hn, w0, turn, stop⟩ := h2
  subst e
  refine wpAny_mono (comp_start (E := X.xe) (RR := fun D C r s' => compPost (model X.prog X.w) X.A X.xe none (EP X pins σ Q) (.ref D) C r s') hc hxe hcell hkind hx hin hhas hsl hnd ht I2 T st2 f2 hn w0 turn (fun ys H' w => (stop ys H' w).1)
    fun C D ys its k ps σc H' s' c1 c2 c3 c4 a1 a2 a3 a4 a5 a6 => ?_) (fun acc s3 h3 => wpAny_mono h3 (fun cenv s4 h4 => codeAny_mono h4 fun r s' q => ?_) fun _ _ z => z) fun _ _ z => z
  · obtain ⟨m, hm, _⟩ := a2.loc
    refine ⟨m, hm, fun h' hb => ⟨.ref D, _, comp_back I2 a2 f2 c1 c2 c3 hb a3 a4 a5 a6, rfl, (stop ys H' a1).2 D a3⟩⟩
  · obtain ⟨D, rfl, q⟩ := q
    exact q
/-- y = [elt for x in iter if ..], y in slot i -/
theorem ps_setComp {i : Nat} {y : Str} {py spos : Pos} (hN : X.N.Nodup) (hi0 : X.N[i]? = some y) (hy : Loc X.env.scope y) (hi : PI X (.Name x px) iter wi) (ht : ∀ C s2 H2 fp pn, PTn (compCx X x slots scope cl C s2 H2 fp pn) ifs elt tt)
    (hsw : swapsWith (.ListComp elt [⟨.Name x px, iter, ifs, 0⟩] scope pos) (some (.Name y py)) spos.line X.env = pure true := by rfl) (hc : X.calm = true := by rfl) (hxe : ∀ e s, ¬ X.xe e s := by exact fun _ _ h => h) (hclos : closureFor scope X.env = pure cl := by rfl)
    (hcell : ∀ y ∈ scope.names, y.2 ≠ .cell := by decide +kernel) (hkind : scope.kind = .function := by rfl) (hnames : ∀ y ∈ scope.names, y.2 = .local → scope.names.lookup y.1 = some .local := by decide +kernel) (hx : scope.names.lookup x = some .local := by rfl)
    (hin : CellsIn cl X.env.cells := by first | exact cells_nil | exact cells_cons rfl cells_nil | exact cells_cons rfl (cells_cons rfl cells_nil) | exact cells_cons rfl (cells_cons rfl (cells_cons rfl cells_nil)))
    (hhas : HasCells cl (relabel scope X.env).names := by (repeat (refine has_cons (fun h => by first | exact ⟨_, rfl⟩ | (rcases h with h | h <;> cases h)) ?_)); exact has_nil)
    (hsl : SlotsOk X scope slots := by first | exact trivial | exact ⟨⟨rfl, rfl⟩, trivial⟩ | exact ⟨⟨rfl, rfl⟩, ⟨rfl, rfl⟩, trivial⟩ | exact ⟨⟨rfl, rfl⟩, ⟨rfl, rfl⟩, ⟨rfl, rfl⟩, trivial⟩)
    (hnd : (x :: slots.map (fun k => X.N.getD k "")).Nodup := by decide +kernel) (hs : ∀ v, foldedSetIterable iter X.env v = pure v := by intro _; rfl)
    (hf : X.fn y = true ∨ X.env.scope.names.lookup y = some .local := by first | exact .inl rfl | exact .inr rfl | assumption) :
    PS X (.Assign [.Name y py] (.ListComp elt [⟨.Name x px, iter, ifs, 0⟩] scope pos) spos) (tAsg (tComp slots wi tt) (gName i)) := by
  intro pins s σ H D0 I h
  rw [exec_Assign_Name_used _ _ _ _ hsw]
  refine wpAny_bind (wpAny_standAt (wpAny_bind ?_))
  show wpAny _ X.A (do let _ ← comprehension (.ListComp elt [⟨.Name x px, iter, ifs, 0⟩] scope pos) scope X.env _ (newList []) false (eval iter X.env) (some (assign (.Name y py) X.env))) _ _ s
  refine wpAny_bind (thn (wpAny_comprehension_free (use := some (assign (.Name y py) X.env)) (Q := fun _ s' => SP X pins D0 .next s') rfl hs hclos hkind hnames (thn (hi pins s σ H _ I h) fun v s1 h1 => thn h1 fun itv s2 h2 => ?_)) fun _ s' q => wpAny_pure (wpAny_pure q))
  obtain ⟨it, fp, tn, J, H2, e, I2, T, st2, f2, n, W, hn, w0, turn, stop⟩ := h2
  subst e
  refine wpAny_mono (comp_start (E := X.xe) (RR := fun D C r s' => compPost (model X.prog X.w) X.A X.xe (some (assign (.Name y py) X.env)) (fun _ s' => SP X pins D0 .next s') (.ref D) C r s') hc hxe hcell hkind hx hin hhas hsl hnd ht I2 T st2 f2 hn w0 turn (fun ys H' w => (stop ys H' w).1)
    fun C D ys its k ps σc H' s' c1 c2 c3 c4 a1 a2 a3 a4 a5 a6 => ?_) (fun acc s3 h3 => wpAny_mono h3 (fun cenv s4 h4 => codeAny_mono h4 fun r s' q => ?_) fun _ _ z => z) fun _ _ z => z
  · obtain ⟨m, hm, _⟩ := a2.loc
    have J1 := comp_back I2 a2 f2 c1 c2 c3 (Heap.SameBut.refl C s'.heap) a3 a4 a5 a6
    have q := (stop ys H' a1).2 D a3
    have ltC : ∀ a o, s2.heap.get? a = some o → a ≠ C := fun a o e => Nat.ne_of_lt (Nat.lt_trans (Heap.lt_size e) c1)
    have nL : X.env.locals ≠ C := Nat.ne_of_lt (Nat.lt_trans I2.lt c1)
    have nc : ∀ z c, X.env.cells.lookup z = some c → c ≠ C := fun z c e => by
      obtain ⟨v, qq⟩ := I2.cell z c e
      exact Nat.ne_of_lt (Nat.lt_trans qq.lt c1)
    have fC : upd H' D (.lst ys) C = none := by
      rw [upd_ne (Ne.symm c3)]
      exact a2.free
    show wpAny _ X.A (assign (.Name y py) X.env (.ref D)) _ _ s'
    refine wpAny_assign_Name (store_ok2 J1 hN hi0 hy (show RelV (.ref D) (.ref D) from rfl) (fun s5 J5 ch => ?_) hf)
    obtain ⟨a, sb, ha⟩ := ch
    have aC : C ≠ a := fun z => by
      rcases ha with w | w
      · exact nL (w.symm.trans z.symm)
      · exact nc _ _ w z.symm
    refine ⟨m, hm.sameBut sb aC, fun h' hb => ⟨_, _, J5.turned (it := C) (t' := s5.toks) (fun b o hbb e => (hb.2 b hbb).trans e) fC (Ne.symm nL) (.inr (Nat.le_trans I2.sz (Nat.le_of_lt c1))) nc (fun p hp z => ?_), q⟩⟩
    exact ltC _ _ (I2.pin p hp).1 z
  · obtain ⟨D, rfl, q⟩ := q
    exact q
end
end L2

/-! EXCEPTIONS, four: the classes as the text has them; isinstance of an exception. -/
namespace L2
open PySem PySem.Spec PyProof.Rows
structure ExcF (K : PySem.W.Frag) (C : Addr) : Prop where
  ex : PySem.W.excIn K C mroVE "ValueError.__new__" = true
  ga : PySem.W.findIn K (.ref C) "__getattribute__" = some (some (.builtin "BaseException.__getattribute__"))
  gx : PySem.W.findIn K (.ref C) "__getattr__" = some none
  fa : PySem.W.findIn K (.ref C) "__class__" = some (some (.builtin "object.__class__"))
  fg : PySem.W.specialIn K (.builtin "object.__class__") "__get__" = some (some (.builtin "getset_descriptor.__get__"))
  ft : PySem.W.takesIn K (.builtin "object.__class__") = some true
  mo : PySem.W.mroIn K C (.type "object") = some true
  mb : PySem.W.mroIn K C (.type "BaseException") = some true
theorem cls_some {K : PySem.W.Frag} {C : Addr} (q : PySem.W.excIn K C mroVE "ValueError.__new__" = true) : (PySem.W.clsIn K C).isSome = true ∧ PySem.W.typeIn K (.ref C) = some (.type "type") := by
  unfold PySem.W.excIn at q
  split at q
  next dd cd sl found =>
    refine ⟨?_, ?_⟩
    · unfold PySem.W.clsIn
      rw [found]
      rfl
    · unfold PySem.W.typeIn
      show (K.lookup C).map _ = _
      rw [found]
      rfl
  next => cases q
theorem exm_own {K : PySem.W.Frag} {C Y : Addr} (hY : PySem.W.excIn K Y mroVE "ValueError.__new__" = true) (h1 : PySem.W.subIn K (.ref Y) (.type "BaseException") = some true) (h2 : PySem.W.subIn K (.ref C) (.ref Y) = some true) : PySem.W.exmOne K (.ref C) (.ref Y) = some true := by
  obtain ⟨a, b⟩ := cls_some hY
  unfold PySem.W.exmOne
  rw [h1, if_pos (by decide)]
  show (if ((PySem.W.clsIn K Y).isSome && PySem.W.typeIn K (.ref Y) == some (.type "type")) = true then PySem.W.subIn K (.ref C) (.ref Y) else none) = some true
  rw [a, b, if_pos (by decide)]
  exact h2
/-- a class that is raised, and what isinstance says of it -/
structure Raised (K : PySem.W.Frag) (S C1 C2 C3 C4 C5 R : Addr) (b1 b2 b3 b4 b5 : Bool) : Prop where
  f : ExcF K R
  exm : PySem.W.exmOne K (.ref R) (.ref S) = some true
  k1 : PySem.W.kitOne K (.ref R) (.ref C1) = some b1
  k2 : PySem.W.kitOne K (.ref R) (.ref C2) = some b2
  k3 : PySem.W.kitOne K (.ref R) (.ref C3) = some b3
  k4 : PySem.W.kitOne K (.ref R) (.ref C4) = some b4
  k5 : PySem.W.kitOne K (.ref R) (.ref C5) = some b5
  k6 : PySem.W.kitOne K (.ref R) (.type "ValueError") = some true
theorem boot_ValueError : bootBuiltins "ValueError" = some (.type "ValueError") := by decide +kernel
def rIsiE (K : PySem.W.Frag) : List V → Hp → VK → Prop := fun xs H Q => ∃ x C y c b, xs = [.ref x, y] ∧ RelV y c ∧ H x = some (ExcO x C) ∧ ExcF K C ∧ PySem.W.kitOne K (.ref C) c = some b ∧ Q (.bl b) H
theorem call_isiE {X : Cx} : CallR X (.builtin "isinstance") (rIsiE X.K) := by
  intro pins s σ H xs us Q I r h
  obtain ⟨x, C, y, c, b, rfl, rc, hx, F, e, q⟩ := h
  obtain ⟨u, v, rfl, ru, rv⟩ := r.two
  obtain rfl : u = Value.ref x := ru
  have ev : v = c := by
    cases y with
    | ref a => exact (show v = Value.ref a from rv).trans (show c = Value.ref a from rc).symm
    | ty n => exact (show v = Value.type n from rv).trans (show c = Value.type n from rc).symm
    | non => exact (show v = Value.none from rv).trans (show c = Value.none from rc).symm
    | bl b => exact (show v = Value.bool b from rv).trans (show c = Value.bool b from rc).symm
    | int i =>
      obtain ⟨t, rfl⟩ := (show ∃ t, c = Value.int i t from rc)
      exact absurd e (by unfold PySem.W.kitOne PySem.W.kitCls; simp)
    | str i =>
      obtain ⟨t, rfl⟩ := (show ∃ t, c = Value.str i t from rc)
      exact absurd e (by unfold PySem.W.kitOne PySem.W.kitCls; simp)
    | byt i =>
      obtain ⟨t, rfl⟩ := (show ∃ t, c = Value.bytes i t from rc)
      exact absurd e (by unfold PySem.W.kitOne PySem.W.kitCls; simp)
    | flt i =>
      obtain ⟨t, rfl⟩ := (show ∃ t, c = Value.float i t from rc)
      exact absurd e (by unfold PySem.W.kitOne PySem.W.kitCls; simp)
  subst ev
  obtain ⟨ph, _, _⟩ := (show ObjOk X.prog X.w H s.heap x (.ext (ExcAt x C)) from I.hok x _ hx)
  exact PySem.W.kia_one (kitx_exc (cls_some F.ex).1 F.ga F.gx F.fa F.fg F.ft F.mo F.mb) I.kIn ph e (fun z => nomatch z) fun tk => ⟨.bl b, H, I.tok _, rfl, q⟩
end L2
namespace L2
open PySem PySem.Spec PyProof.Rows
/-- a class of the text by its name, as a value -/
theorem pe_cls {X : Cx} {x : Str} {C : Addr} {pos : Pos} (hm : X.mg x = some (.ref C)) (hg : Gl X x := by rfl) (hd : (x == ("__debug__" : Str)) = false := by decide) : PE X (.Name x pos) (tC (.ref C)) := pe_glob hg hm rfl hd
end L2

/-! THE GREATEST FIRST -/
namespace Us
/-- the numbers of the greatest first; none where one is L or more -/
def gr (L t b : Int) : Option (List Int) := if 0 < t then (if L ≤ cl t b then none else (gr L (t * cl t b - b) (b * cl t b)).map (cl t b :: ·)) else some []
termination_by t.toNat
decreasing_by
  rename_i ht _
  obtain ⟨g1, g2⟩ := cl_spec (b := b) ht
  omega
theorem gr_zero {L t b : Int} (h : ¬ 0 < t) : gr L t b = some [] := by rw [gr, if_neg h]
theorem gr_none {L t b : Int} (h : 0 < t) (h1 : L ≤ cl t b) : gr L t b = none := by rw [gr, if_pos h, if_pos h1]
theorem gr_pos {L t b : Int} (h : 0 < t) (h1 : ¬ L ≤ cl t b) : gr L t b = (gr L (t * cl t b - b) (b * cl t b)).map (cl t b :: ·) := by rw [gr, if_pos h, if_neg h1]
theorem gr_ind {M : Int → Int → Prop} (h0 : ∀ t b, ¬ 0 < t → M t b) (h1 : ∀ t b, 0 < t → M (t * cl t b - b) (b * cl t b) → M t b) : ∀ t b, M t b := by
  intro t
  generalize hn : t.toNat = n
  induction n using Nat.strongRecOn generalizing t with
  | _ n ih =>
    intro b
    by_cases ht : 0 < t
    · obtain ⟨g1, g2⟩ := cl_spec (b := b) ht
      exact h1 t b ht (ih _ (by omega) _ rfl _)
    · exact h0 t b ht
theorem gr_scale {L k : Int} (hk : 0 < k) : ∀ t b, gr L (k * t) (k * b) = gr L t b := by
  refine gr_ind (fun t b ht => ?_) (fun t b ht ih => ?_)
  · rw [gr_zero ht, gr_zero (fun z => ht (Int.lt_of_mul_lt_mul_left (a := k) (by omega) (by omega)))]
  · have e1 : k * t * cl t b - k * b = k * (t * cl t b - b) := by grind
    have e2 : k * b * cl t b = k * (b * cl t b) := by grind
    by_cases c : L ≤ cl t b
    · rw [gr_none ht c, gr_none (Int.mul_pos hk ht) (by rw [cl_scale ht hk]; exact c)]
    · rw [gr_pos ht c, gr_pos (Int.mul_pos hk ht) (by rw [cl_scale ht hk]; exact c), cl_scale ht hk, e1, e2, ih]
theorem gr_low {L t b : Int} (hb : 0 < b) : gr L t b = gr L (low t b).1 (low t b).2 := by
  have g := G_pos (a := t) hb
  have e1 := low_mul_fst t b
  have e2 := low_mul_snd t b
  have s := gr_scale (L := L) g (low t b).1 (low t b).2
  rw [Int.mul_comm _ (low t b).2, Int.mul_comm _ (low t b).1, e1, e2] at s
  exact s
theorem gr_split {L t b : Int} {xs : List Int} (h : gr L t b = some xs) (ht : 0 < t) : ¬ L ≤ cl t b ∧ ∃ ys, gr L (t * cl t b - b) (b * cl t b) = some ys ∧ xs = cl t b :: ys := by
  by_cases c : L ≤ cl t b
  · rw [gr_none ht c] at h
    cases h
  · rw [gr_pos ht c] at h
    refine ⟨c, ?_⟩
    cases e : gr L (t * cl t b - b) (b * cl t b) with
    | none => rw [e] at h; cases h
    | some ys =>
      rw [e] at h
      cases h
      exact ⟨ys, rfl, rfl⟩
/-- each above n * (n - 1) for the n ahead -/
def Ch : List Int → Prop
  | [] => True
  | x :: r => (∀ y ∈ r.head?, x * (x - 1) < y) ∧ Ch r
theorem Ch.at : ∀ {xs : List Int}, Ch xs → ∀ (i : Nat) (x y : Int), xs[i]? = some x → xs[i + 1]? = some y → x * (x - 1) < y
  | [], _, _, _, _, h, _ => nomatch h
  | x :: r, h, 0, _, y, hx, hy => by
    cases hx
    rw [List.getElem?_cons_succ, ← List.head?_eq_getElem?] at hy
    exact h.1 y hy
  | _ :: r, h, i + 1, x, y, hx, hy => Ch.at h.2 i x y (by rw [List.getElem?_cons_succ] at hx; exact hx) (by rw [List.getElem?_cons_succ] at hy; exact hy)
theorem gr_good {L : Int} : ∀ t b, ∀ xs, gr L t b = some xs → 0 ≤ t → t < b → (xs.length : Int) ≤ t ∧ (∀ x ∈ xs, 2 ≤ x ∧ x < L) ∧ Ch xs := by
  refine gr_ind (fun t b ht xs h h0 h1 => ?_) (fun t b ht ih xs h h0 h1 => ?_)
  · rw [gr_zero ht] at h
    cases h
    exact ⟨h0, fun _ z => (nomatch z), trivial⟩
  · obtain ⟨g1, g2⟩ := cl_spec (b := b) ht
    obtain ⟨c, ys, hy, rfl⟩ := gr_split h ht
    have two := cl_ge_two ht h1
    have bs : b * 1 ≤ b * cl t b := Int.mul_le_mul_of_nonneg_left (by omega) (by omega)
    obtain ⟨i1, i2, i3⟩ := ih ys hy (by omega) (by omega)
    refine ⟨by rw [List.length_cons]; omega, fun x hx => ?_, fun y hyy => ?_, i3⟩
    · rcases List.mem_cons.mp hx with rfl | hx
      · exact ⟨two, by omega⟩
      · exact i2 x hx
    · by_cases hp : 0 < t * cl t b - b
      · obtain ⟨_, zs, _, rfl⟩ := gr_split hy hp
        cases hyy
        obtain ⟨k1, k2⟩ := cl_spec (t := t * cl t b - b) (b := b * cl t b) hp
        generalize cl (t * cl t b - b) (b * cl t b) = s' at *
        generalize cl t b = s at *
        generalize hu : t * s - b = u at *
        rcases Int.lt_or_le (s * (s - 1)) s' with z | z
        · exact z
        · have a1 : u * s' ≤ u * (s * (s - 1)) := Int.mul_le_mul_of_nonneg_left z (by omega)
          have a2 : s * b ≤ s * (u * (s - 1)) := by
            have e1 : s * b = b * s := Int.mul_comm _ _
            have e2 : s * (u * (s - 1)) = u * (s * (s - 1)) := by grind
            omega
          have a3 := Int.le_of_mul_le_mul_left a2 (show 0 < s by omega)
          have a4 : u * (s - 1) ≤ (t - 1) * (s - 1) := Int.mul_le_mul_of_nonneg_right (by omega) (by omega)
          have a5 : (t - 1) * (s - 1) = t * s - t - s + 1 := by grind
          omega
      · rw [gr_zero hp] at hy
        cases hy
        cases hyy
theorem gr_fold {L : Int} : ∀ t b, ∀ xs, gr L t b = some xs → 0 ≤ t → 0 < b → ∀ q : Int × Int, 0 < q.2 → (xs.foldl tbStep q).1 * b * q.2 = (q.1 * b + t * q.2) * (xs.foldl tbStep q).2 := by
  refine gr_ind (fun t b ht xs h h0 hb q hq => ?_) (fun t b ht ih xs h h0 hb q hq => ?_)
  · obtain rfl : t = 0 := by omega
    rw [gr_zero ht] at h
    cases h
    simp only [List.foldl_nil]
    grind
  · obtain ⟨g1, g2⟩ := cl_spec (b := b) ht
    obtain ⟨c, ys, hy, rfl⟩ := gr_split h ht
    have cp := cl_pos ht hb
    have i := ih ys hy (by omega) (Int.mul_pos hb cp) (tbStep q (cl t b)) (Int.mul_pos hq cp)
    rw [List.foldl_cons]
    generalize ys.foldl tbStep (tbStep q (cl t b)) = z at *
    simp only [tbStep] at i
    generalize cl t b = f at *
    have cc : 0 < f * f := Int.mul_pos cp cp
    have : (f * f) * (z.1 * b * q.2 - (q.1 * b + t * q.2) * z.2) = 0 := by grind
    rcases Int.mul_eq_zero.mp this with w | w
    · omega
    · omega
theorem gr_sum {L t b : Int} {xs : List Int} (h : gr L t b = some xs) (h0 : 0 ≤ t) (hb : t < b) : sumM xs = low t b := by
  have f := gr_fold t b xs h h0 (by omega) (0, 1) (by decide)
  have ep := (gr_good t b xs h h0 hb).2.1
  have pos : 0 < (tb xs).2 := foldl_tb_pos _ (0, 1) (fun f hf => by have := (ep f hf).1; omega) (by decide)
  unfold sumM
  refine low_unique pos (by omega) ?_
  have f' : (tb xs).1 * b * 1 = (0 * b + t * 1) * (tb xs).2 := f
  grind
/-- the bottoms -/
theorem tb_ge : ∀ (xs : List Int) (p : Int × Int), (∀ x ∈ xs, 0 < x) → 0 < p.2 → p.2 ≤ (xs.foldl tbStep p).2
  | [], _, _, _ => Int.le_refl _
  | x :: r, p, h, h2 => by
    have hx := h x List.mem_cons_self
    have a : p.2 * 1 ≤ p.2 * x := Int.mul_le_mul_of_nonneg_left (by omega) (by omega)
    have i := tb_ge r (tbStep p x) (fun y hy => h y (List.mem_cons_of_mem _ hy)) (Int.mul_pos h2 hx)
    rw [List.foldl_cons]
    have e : (tbStep p x).2 = p.2 * x := rfl
    omega
theorem tb_take {xs : List Int} (i : Nat) (h : ∀ x ∈ xs, 0 < x) : (tb (xs.take i)).2 ≤ (tb xs).2 := by
  have e : tb xs = (xs.drop i).foldl tbStep (tb (xs.take i)) := by
    unfold tb
    rw [← List.foldl_append, List.take_append_drop]
  rw [e]
  exact tb_ge _ _ (fun x hx => h x (List.mem_of_mem_drop hx)) (foldl_tb_pos _ (0, 1) (fun x hx => h x (List.mem_of_mem_take hx)) (by decide))
theorem tb_top : ∀ (xs : List Int) (n : Nat) (p : Int × Int), (∀ x ∈ xs, 0 < x) → 0 ≤ p.1 → p.1 ≤ n * p.2 → 0 < p.2 → 0 ≤ (xs.foldl tbStep p).1 ∧ (xs.foldl tbStep p).1 ≤ ((n + xs.length : Nat) : Int) * (xs.foldl tbStep p).2
  | [], _, _, _, h0, h1, _ => ⟨h0, h1⟩
  | x :: r, n, p, h, h0, h1, h2 => by
    have hx := h x List.mem_cons_self
    have a : p.2 * 1 ≤ p.2 * x := Int.mul_le_mul_of_nonneg_left (by omega) (by omega)
    have b : p.1 * x ≤ n * p.2 * x := Int.mul_le_mul_of_nonneg_right h1 (by omega)
    have c : 0 ≤ p.1 * x := Int.mul_nonneg h0 (by omega)
    have i := tb_top r (n + 1) (tbStep p x) (fun y hy => h y (List.mem_cons_of_mem _ hy)) (by show 0 ≤ p.1 * x + p.2; omega) (by show p.1 * x + p.2 ≤ ((n + 1 : Nat) : Int) * (p.2 * x); grind) (Int.mul_pos h2 hx)
    rw [List.foldl_cons, List.length_cons]
    have e : n + (r.length + 1) = n + 1 + r.length := by omega
    rw [e]
    exact i
theorem tb_first {xs : List Int} (h : ∀ x ∈ xs, 0 < x) : 0 ≤ (tb xs).1 ∧ (tb xs).1 ≤ (xs.length : Int) * (tb xs).2 ∧ 0 < (tb xs).2 := by
  have a := tb_top xs 0 (0, 1) h (by decide) (by decide) (by decide)
  rw [Nat.zero_add] at a
  exact ⟨a.1, a.2, foldl_tb_pos _ (0, 1) h (by decide)⟩
theorem tb_mem {xs : List Int} (h : ∀ x ∈ xs, 0 < x) {i : Nat} {z : Int} (hz : xs[i]? = some z) : z ≤ (tb xs).2 := by
  have t := tb_take (i + 1) h
  have tk : xs.take (i + 1) = xs.take i ++ [z] := by rw [List.take_add_one, hz]; rfl
  rw [tk, tb_snoc] at t
  have p : 0 < (tb (xs.take i)).2 := foldl_tb_pos _ (0, 1) (fun x hx => h x (List.mem_of_mem_take hx)) (by decide)
  have z0 := h z (List.mem_of_getElem? hz)
  have a : z * 1 ≤ z * (tb (xs.take i)).2 := Int.mul_le_mul_of_nonneg_left (by omega) (by omega)
  have e : (tbStep (tb (xs.take i)) z).2 = (tb (xs.take i)).2 * z := rfl
  rw [e, Int.mul_comm] at t
  omega
theorem gr_step {t b T L : Int} (ht : 0 < t) (hT : t ≤ T) (hb : 0 < b) (c : ¬ L ≤ cl t b) : b * cl t b ≤ T * L * L ∧ b ≤ T * L := by
  obtain ⟨g1, g2⟩ := cl_spec (b := b) ht
  have p := cl_pos ht hb
  generalize cl t b = s at *
  have a1 : t * s ≤ T * s := Int.mul_le_mul_of_nonneg_right hT (by omega)
  have a2 : T * s ≤ T * L := Int.mul_le_mul_of_nonneg_left (by omega) (by omega)
  have a3 : b * s ≤ T * L * s := Int.mul_le_mul_of_nonneg_right (by omega) (by omega)
  have a4 : T * L * s ≤ T * L * L := Int.mul_le_mul_of_nonneg_left (by omega) (by omega)
  exact ⟨by omega, by omega⟩
theorem gr_prod {L T : Int} : ∀ t b, ∀ xs, gr L t b = some xs → 0 ≤ t → t ≤ T → 0 < b → b ≤ T * L * L → ∀ q : Int × Int, 0 < q.2 → q.2 ≤ b → (xs.foldl tbStep q).2 ≤ T * L * L := by
  refine gr_ind (fun t b ht xs h h0 hT hb hL q hq hq2 => ?_) (fun t b ht ih xs h h0 hT hb hL q hq hq2 => ?_)
  · rw [gr_zero ht] at h
    cases h
    exact Int.le_trans hq2 hL
  · obtain ⟨g1, g2⟩ := cl_spec (b := b) ht
    obtain ⟨c, ys, hy, rfl⟩ := gr_split h ht
    have cp := cl_pos ht hb
    rw [List.foldl_cons]
    exact ih ys hy (by omega) (by omega) (Int.mul_pos hb cp) (gr_step ht hT hb c).1 _ (Int.mul_pos hq cp) (Int.mul_le_mul_of_nonneg_right hq2 (by omega))
/-- 10 to the 400 -/
def LL : Int := 10 ^ 400
theorem LL_bits : LL ≤ P2 1329 := by unfold LL P2; decide +kernel
theorem LL_two : 1000 * LL * LL ≤ P2 2700 := by unfold LL P2; decide +kernel
theorem LL_pos : 1000 ≤ LL := by unfold LL; decide +kernel
end Us

/-! POWERS of greater ints, str(int), len(text), a call whose exceptions never fly -/
namespace L2
open PySem PySem.Spec PyProof.Rows
section
variable {X : Cx}
def CPowB (i j : Int) : Prop := 0 ≤ j ∧ (Builtin.Int.intBits i : Int) * j ≤ 2 ^ 27
theorem op_powB : OpR X (binaryOp .Pow) (rI CPowB fun i j => .int (i ^ j.toNat)) := opI fun _ _ _ _ _ _ _ hc q => pow_int hc.1 hc.2 q
def rStrB : List V → Hp → VK → Prop := fun xs H Q => ∃ i : Int, xs = [.int i] ∧ i.natAbs < 10 ^ 4300 ∧ Q (.str (toString i)) H
theorem call_strB (hc : X.calm = true) : CallR X (.type "str") rStrB := by
  intro pins s σ H xs us Q I r h
  obtain ⟨i, rfl, hz, q⟩ := h
  obtain ⟨u, rfl, t, rfl⟩ := vals1 r
  exact str_of_int_or (I.ok.hd hc) (I.ok.mod.nodig.keeps I.bk) (fun _ => ⟨.str _, H, I.tok _, ⟨_, rfl⟩, q⟩) fun z => absurd z (Nat.not_le.mpr hz)
theorem passN : Passes (CXE X.prog X.w) X fun _ _ _ => False := fun _ _ _ _ _ _ _ h => by
  obtain ⟨_, _, _, _, _, e⟩ := h
  exact e.elim
end
theorem small_nat {i : Int} {k : Nat} (h0 : 0 ≤ i) (h : i ≤ Us.P2 k) (hk : k ≤ 10000) : i.natAbs < 10 ^ 4300 := by
  have a : i ≤ Us.P2 10000 := Int.le_trans h (Us.P2_mono hk)
  have b : Us.P2 10000 < ((10 ^ 4300 : Nat) : Int) := by unfold Us.P2; decide +kernel
  omega
theorem figures {i : Int} (h0 : 0 ≤ i) : ((400 : Int) < ((Str.ofString (toString i)).length : Int)) ↔ Us.LL ≤ i := by
  obtain ⟨n, rfl⟩ := Int.eq_ofNat_of_zero_le h0
  rw [PySem.ofString_length]
  have e : toString (n : Int) = Nat.repr n := rfl
  have k := Nat.length_repr_le_iff (n := n) (k := 400) (by decide)
  have c : Us.LL = ((10 ^ 400 : Nat) : Int) := by unfold Us.LL; decide +kernel
  rw [e, c]
  generalize (10 : Nat) ^ 400 = z at *
  omega
theorem fits {i : Int} (h : i.natAbs < 10 ^ 4300) : (Str.ofString (toString i)).length ≤ sizeLine := int_text_fits10 h
end L2

/-! SETS, one: the table. Its places rise, and it stays led. -/
namespace L2
open PySem PySem.Spec PyProof.Rows
def Up (xs : Array Nat) : Prop := xs.toList.Pairwise (· < ·)
theorem Up.at {xs : Array Nat} (u : Up xs) {i k x y : Nat} (hx : xs[i]? = some x) (hy : xs[k]? = some y) (h : i < k) : x < y := by
  unfold Up at u
  rw [List.pairwise_iff_getElem] at u
  rw [← Array.getElem?_toList] at hx hy
  obtain ⟨h1, rfl⟩ := List.getElem?_eq_some_iff.mp hx
  obtain ⟨h2, rfl⟩ := List.getElem?_eq_some_iff.mp hy
  exact u i k h1 h2 h
theorem below_go {xs : Array Nat} {j : Nat} (u : Up xs) : ∀ (fuel lo hi : Nat), hi - lo ≤ fuel → lo ≤ hi → hi ≤ xs.size → (∀ i x, xs[i]? = some x → i < lo → x < j) → (∀ i x, xs[i]? = some x → hi ≤ i → ¬ x < j) →
    SetTable.below.go xs j fuel lo hi ≤ xs.size ∧ ∀ i x, xs[i]? = some x → (i < SetTable.below.go xs j fuel lo hi ↔ x < j)
  | 0, lo, hi, h1, h2, h3, a, b => by
    obtain rfl : lo = hi := by omega
    refine ⟨h3, fun i x hx => ⟨fun h => a i x hx h, fun h => ?_⟩⟩
    rcases Nat.lt_or_ge i (SetTable.below.go xs j 0 lo lo) with z | z
    · exact z
    · exact absurd h (b i x hx z)
  | fuel + 1, lo, hi, h1, h2, h3, a, b => by
    rw [SetTable.below.go]
    by_cases c : lo < hi
    · rw [if_pos c]
      have hm : (lo + hi) / 2 < xs.size := by omega
      have e : xs[(lo + hi) / 2]? = some xs[(lo + hi) / 2] := Array.getElem?_eq_getElem hm
      have g : xs.getD ((lo + hi) / 2) j = xs[(lo + hi) / 2] := by rw [Array.getD_eq_getD_getElem?, e]; rfl
      dsimp only
      rw [g]
      generalize xs[(lo + hi) / 2] = y at *
      by_cases d : y < j
      · rw [if_pos d]
        refine below_go u fuel _ hi (by omega) (by omega) h3 (fun i x hx hi' => ?_) b
        rcases Nat.lt_or_ge i ((lo + hi) / 2) with z | z
        · exact Nat.lt_trans (u.at hx e z) d
        · obtain rfl : i = (lo + hi) / 2 := by omega
          cases hx.symm.trans e
          exact d
      · rw [if_neg d]
        refine below_go u fuel lo _ (by omega) (by omega) (by omega) a (fun i x hx hi' => ?_)
        rcases Nat.lt_or_ge ((lo + hi) / 2) i with z | z
        · have := u.at e hx z
          omega
        · obtain rfl : i = (lo + hi) / 2 := by omega
          cases hx.symm.trans e
          exact d
    · rw [if_neg c]
      obtain rfl : lo = hi := by omega
      refine ⟨h3, fun i x hx => ⟨fun h => a i x hx h, fun h => ?_⟩⟩
      rcases Nat.lt_or_ge i lo with z | z
      · exact z
      · exact absurd h (b i x hx z)
theorem below_le {xs : Array Nat} {j : Nat} (u : Up xs) : SetTable.below xs j ≤ xs.size := (below_go u xs.size 0 xs.size (by omega) (by omega) (Nat.le_refl _) (fun _ _ _ h => absurd h (Nat.not_lt_zero _)) fun i x hx h => absurd (Array.getElem?_eq_some_iff.mp hx).1 (by omega)).1
theorem below_iff {xs : Array Nat} {j i x : Nat} (u : Up xs) (hx : xs[i]? = some x) : i < SetTable.below xs j ↔ x < j := (below_go u xs.size 0 xs.size (by omega) (by omega) (Nat.le_refl _) (fun _ _ _ h => absurd h (Nat.not_lt_zero _)) fun i x hx h => absurd (Array.getElem?_eq_some_iff.mp hx).1 (by omega)).2 i x hx
theorem below_zero {xs : Array Nat} (u : Up xs) : SetTable.below xs 0 = 0 := by
  have l := below_le (j := 0) u
  by_cases c : 0 < SetTable.below xs 0
  · have e : xs[0]? = some xs[0] := Array.getElem?_eq_getElem (by omega)
    exact absurd ((below_iff u e).1 c) (Nat.not_lt_zero _)
  · omega
theorem below_next {xs : Array Nat} {i x : Nat} (u : Up xs) (hx : xs[i]? = some x) : SetTable.below xs (x + 1) = i + 1 := by
  have l := below_le (j := x + 1) u
  have a := (below_iff (j := x + 1) u hx).2 (Nat.lt_succ_self x)
  by_cases c : i + 1 < SetTable.below xs (x + 1)
  · have e : xs[i + 1]? = some xs[i + 1] := Array.getElem?_eq_getElem (by omega)
    have := (below_iff u e).1 c
    have := u.at hx e (Nat.lt_succ_self i)
    omega
  · omega
/-- a place that is not taken -/
theorem not_mem_of {xs : Array Nat} {j : Nat} (u : Up xs) (h : xs[SetTable.below xs j]? ≠ some j) : j ∉ xs.toList := fun hm => by
  obtain ⟨i, hi, e⟩ := List.mem_iff_getElem.mp hm
  have hx : xs[i]? = some j := by rw [← Array.getElem?_toList, List.getElem?_eq_getElem hi, e]
  have a := (below_iff (j := j) u hx)
  rcases Nat.lt_trichotomy i (SetTable.below xs j) with z | z | z
  · exact Nat.lt_irrefl _ (a.1 z)
  · exact h (by rw [← z]; exact hx)
  · have l : SetTable.below xs j < xs.size := Nat.lt_trans z (Array.getElem?_eq_some_iff.mp hx).1
    have e2 : xs[SetTable.below xs j]? = some xs[SetTable.below xs j] := Array.getElem?_eq_getElem l
    have b := u.at e2 hx z
    exact Nat.lt_irrefl _ ((below_iff u e2).2 b)
theorem Up.insert {xs : Array Nat} {j : Nat} (u : Up xs) (h : j ∉ xs.toList) : Up (SetTable.insertAt xs (SetTable.below xs j) j) := by
  unfold Up
  rw [SetTable.toList_insertAt]
  have lt : ∀ x ∈ xs.toList.take (SetTable.below xs j), x < j := fun x hx => by
    obtain ⟨i, hi, e⟩ := List.mem_iff_getElem.mp hx
    rw [List.length_take] at hi
    rw [List.getElem_take] at e
    have hx' : xs[i]? = some x := by rw [← Array.getElem?_toList, List.getElem?_eq_getElem (by omega), e]
    exact (below_iff u hx').1 (by omega)
  have gt : ∀ x ∈ xs.toList.drop (SetTable.below xs j), j < x := fun x hx => by
    have hm := List.mem_of_mem_drop hx
    obtain ⟨i, hi, e⟩ := List.mem_iff_getElem.mp hx
    rw [List.getElem_drop] at e
    rw [List.length_drop] at hi
    have hx' : xs[SetTable.below xs j + i]? = some x := by rw [← Array.getElem?_toList, List.getElem?_eq_getElem (by omega), e]
    have := mt (below_iff (j := j) u hx').2 (by omega)
    have ne : x ≠ j := fun z => h (z ▸ hm)
    omega
  refine List.pairwise_append.mpr ⟨u.sublist (List.take_sublist _ _), List.pairwise_cons.mpr ⟨gt, u.sublist (List.drop_sublist _ _)⟩, fun a ha b hb => ?_⟩
  rcases List.mem_cons.mp hb with rfl | hb
  · exact lt a ha
  · exact Nat.lt_trans (lt a ha) (gt b hb)
theorem slot_free {t : SetTable} {j : Nat} (u : Up t.place) (h : ∀ i, t.slot j ≠ .live i) : j ∉ t.place.toList := by
  refine not_mem_of u fun e => ?_
  refine h (SetTable.below t.place j) ?_
  unfold SetTable.slot
  dsimp only
  rw [e]
  simp
theorem probe_go {t : SetTable} {f : Nat → Int} {h : Int} : ∀ (fuel : Nat) (p : SetTable.Probe) (j : Nat) (d : Option Nat), (∀ d ∈ p.dummy, t.slot d = .dummy) → SetTable.probe.go t f h fuel p = some (.empty j d) → t.slot j = .empty ∧ ∀ e ∈ d, t.slot e = .dummy
  | 0, _, _, _, _, e => nomatch e
  | fuel + 1, p, j, d, a, e => by
    rw [SetTable.probe.go] at e
    have adv : ∀ q : SetTable.Probe, (t.advance q).dummy = q.dummy := fun q => by
      unfold SetTable.advance
      split <;> rfl
    split at e
    next z =>
      cases e
      exact ⟨z, a⟩
    next z => exact probe_go fuel _ j d (by rw [adv]; intro d hd; cases hd; exact z) e
    next i z =>
      split at e
      · cases e
      · exact probe_go fuel _ j d (by rw [adv]; exact a) e
theorem freeSlot_free {t : SetTable} {h : Int} {s : Nat} {b : Bool} (u : Up t.place) (e : t.freeSlot h = some (s, b)) : s ∉ t.place.toList := by
  unfold SetTable.freeSlot at e
  split at e
  next j d z =>
    have k := probe_go _ _ j d (by intro d hd; cases hd) z
    cases e
    cases d with
    | none => exact slot_free u fun i => by rw [show (none : Option Nat).getD j = j from rfl, k.1]; intro z; cases z
    | some d => exact slot_free u fun i => by rw [show (some d).getD j = d from rfl, k.2 d rfl]; intro z; cases z
  next => cases e
theorem up_range (n : Nat) : Up (Array.range n) := by
  unfold Up
  rw [Array.toList_range]
  exact List.pairwise_lt_range
theorem orStandIn_ok {t : SetTable} {n : Nat} (u : Up t.place) : Up (t.orStandIn n).place ∧ (t.orStandIn n).led = t.led := by
  unfold SetTable.orStandIn
  split
  · exact ⟨u, rfl⟩
  · exact ⟨up_range _, rfl⟩
theorem layNew_ok (t : SetTable) (es : Array (Int × Value)) (h : Int) (x : Value) (u : Up t.place) : Up (layNew t es h x).2.1.place ∧ (layNew t es h x).2.1.led = t.led := by
  unfold layNew
  split
  next s b e =>
    have f := freeSlot_free u e
    exact orStandIn_ok (t := (t.put s).1) (u.insert f)
  · exact ⟨up_range _, rfl⟩
theorem fst_sub {α : Type} (g : Nat → Option α) : ∀ l : List Nat, ((l.filterMap fun j => (g j).map (j, ·)).map (·.1)).Sublist l
  | [] => .slnil
  | j :: r => by
    rw [List.filterMap_cons]
    cases e : g j with
    | none => exact .cons _ (fst_sub g r)
    | some y => exact .cons₂ _ (fst_sub g r)
theorem relayAll_ok (t : SetTable) (es : Array (Int × Value)) (n : Nat) : Up (relayAll t es n).2.1.place ∧ (relayAll t es n).2.1.led = t.led := by
  unfold relayAll
  split
  next t' order e =>
    dsimp only
    split
    · unfold SetTable.relaid SetTable.laid at e
      cases hc : SetTable.layClean (SetTable.sizeAbove n - 1) (es.map (·.1)) with
      | none => rw [hc] at e; cases e
      | some ow =>
        rw [hc] at e
        cases e
        refine ⟨?_, rfl⟩
        unfold Up
        exact List.pairwise_lt_range.sublist (fst_sub _ _)
    · exact ⟨up_range _, rfl⟩
  · exact ⟨up_range _, rfl⟩
end L2

/-! SETS, two: a set of ints that is led, its places rising; one more int put into it. -/
namespace L2
open PySem PySem.Spec PyProof.Rows
def keyOf : Value → Int
  | .int i _ => i
  | _ => 0
/-- the unlike ones, as they are met first -/
def put1 (ks : List Int) (i : Int) : List Int := if i ∈ ks then ks else ks ++ [i]
def unlike (ns : List Int) : List Int := ns.foldl put1 []
theorem put1_nodup {ks : List Int} {i : Int} (h : ks.Nodup) : (put1 ks i).Nodup := by
  unfold put1
  split
  · exact h
  next c =>
    refine List.nodup_append.mpr ⟨h, by simp, fun a ha b hb => ?_⟩
    rw [List.mem_singleton.mp hb]
    intro e
    exact c (e ▸ ha)
theorem put1_mem {ks : List Int} {i x : Int} : x ∈ put1 ks i ↔ x ∈ ks ∨ x = i := by
  unfold put1
  split
  next c => exact ⟨.inl, fun h => h.elim id fun e => e ▸ c⟩
  · simp
theorem put1_len {ks : List Int} {i : Int} : (put1 ks i).length ≤ ks.length + 1 := by
  unfold put1
  split
  · omega
  · simp
theorem unlike_snoc (ns : List Int) (i : Int) : unlike (ns ++ [i]) = put1 (unlike ns) i := by unfold unlike; rw [List.foldl_append]; rfl
theorem unlike_nodup (ns : List Int) : (unlike ns).Nodup := by
  have g : ∀ (l ks : List Int), ks.Nodup → (l.foldl put1 ks).Nodup := fun l => by
    induction l with
    | nil => exact fun _ h => h
    | cons x r ih => exact fun ks h => ih _ (put1_nodup h)
  exact g ns [] List.nodup_nil
theorem unlike_mem (ns : List Int) (x : Int) : x ∈ unlike ns ↔ x ∈ ns := by
  have g : ∀ (l ks : List Int), x ∈ l.foldl put1 ks ↔ x ∈ ks ∨ x ∈ l := fun l => by
    induction l with
    | nil => exact fun _ => by simp
    | cons y r ih =>
      intro ks
      rw [List.foldl_cons, ih, put1_mem, List.mem_cons, or_assoc]
  exact (g ns []).trans (by simp)
theorem unlike_len (ns : List Int) : (unlike ns).length ≤ ns.length := by
  have g : ∀ (l ks : List Int), (l.foldl put1 ks).length ≤ ks.length + l.length := fun l => by
    induction l with
    | nil => exact fun _ => Nat.le_refl _
    | cons y r ih =>
      intro ks
      have := ih (put1 ks y)
      have := put1_len (ks := ks) (i := y)
      rw [List.foldl_cons, List.length_cons]
      omega
  have := g ns []
  unfold unlike
  simpa using this
def Led (w : World) (t : SetTable) : Prop := w.params.followText "set-order" = true ∨ t.led = true
/-- the set's object -/
structure SetD (P : Program) (w : World) (o : Obj) (es : Array (Int × Value)) (ep : Nat) (t : SetTable) (ks : List Int) : Prop where
  exact : o.ExactSet
  data : o.data = .set es ep t
  els : ElemsOf (intKind P w) es.toList
  keys : (es.toList.map fun e => keyOf e.2).Perm ks
  bound : es.size < scanBound
  fits : t.fits es.size = true
  up : Up t.place
  led : Led w t
def SetL (P : Program) (w : World) (a : Addr) (ks : List Int) (h : Heap) : Prop := ∃ o es ep t, h.get? a = some o ∧ SetD P w o es ep t ks
section
variable {prog : Program} {w : World} {A : Around} {E : Value → Shared → Prop} {s : Shared}
theorem key_is {i : Int} {v : Value} (h : (intKind prog w).is i v = true) : keyOf v = i := by
  obtain ⟨t, rfl⟩ := Value.isInt_shape h
  rfl
theorem store_L {a : Addr} {o : Obj} {es es' : Array (Int × Value)} {ep : Nat} {t t' : SetTable} {ks : List Int} {Q : Unit → Shared → Prop} (ho : s.heap.get? a = some o) (hd : o.data = .set es ep t) (he : o.ExactSet)
    (els : ElemsOf (intKind prog w) es'.toList) (keys : (es'.toList.map fun e => keyOf e.2).Perm ks) (bound : es'.size < scanBound) (fits : t'.fits es'.size = true) (up : Up t'.place) (led : Led w t')
    (h : ∀ h' o', Heap.SameBut a s.heap h' → h'.get? a = some o' → SetD prog w o' es' (ep + 1) t' ks → Q () { s with heap := h' }) : wpAny (model prog w) A (storeSet a es' t') Q E s := by
  refine wpAny_storeSet_of ho hd (h _ _ (Heap.SameBut.update s.heap a (Obj.putSet es' t')) (SetOf_store (knd := intKind prog w) (S' := fun k => es'.toList.any fun e => (intKind prog w).is k e.2) ho he hd els (fun k => List.any_eq_true) bound fits).1 ⟨he, rfl, els, keys, bound, fits, up, led⟩) (fits_of_scanBound bound)
theorem setAdd_L {a : Addr} {ks : List Int} {i : Int} {tk : Tok} {Q : Bool → Shared → Prop} (hS : SetL prog w a ks s.heap) (hroom : ks.length + 1 < scanBound)
    (h : ∀ h' b, Heap.SameBut a s.heap h' → SetL prog w a (put1 ks i) h' → Q b { s with heap := h' }) : wpAny (model prog w) A (setAddHashed a (.int i tk) ((intKind prog w).hash i)) Q E s := by
  obtain ⟨o, es, ep, t, ho, D⟩ := hS
  have hk : (intKind prog w).is i (.int i tk) = true := intKind_is _ _ _ _
  have hsz : es.size = ks.length := by rw [← D.keys.length_eq, List.length_map, Array.length_toList]
  have self : ∀ b, put1 ks i = ks → Q b s := fun b e => by
    have z := h s.heap b (Heap.SameBut.refl a s.heap) (by rw [e]; exact ⟨o, es, ep, t, ho, D⟩)
    exact z
  unfold setAddHashed setAddHashedIn
  refine wpAny_holding (wpAny_bind (wpAny_setState_of ho D.data D.fits ?_))
  dsimp only
  rw [byScan_of rfl D.bound D.els]
  simp only [↓reduceIte]
  unfold setAddByScan
  refine wpAny_bind ?_
  refine wpAny_bind (wpAny_rule ?_)
  refine wpAny_bind (wpAny_setScan_of hk ho D.data D.fits D.els ?_)
  cases hr : List.findIdx? (fun e => (intKind prog w).is i e.2) es.toList with
  | some j =>
    dsimp only
    obtain ⟨hj, hp, _⟩ := List.findIdx?_eq_some_iff_getElem.mp hr
    have mem : i ∈ ks := D.keys.mem_iff.mp (List.mem_map.mpr ⟨_, List.getElem_mem hj, key_is hp⟩)
    exact wpAny_pure (wpAny_pure (self _ (by unfold put1; rw [if_pos mem])))
  | none =>
    dsimp only
    have mem : i ∉ ks := fun hm => by
      obtain ⟨e, he, ek⟩ := List.mem_map.mp (D.keys.mem_iff.mpr hm)
      obtain ⟨⟨k, hk', _⟩, _⟩ := D.els e he
      have : k = i := (key_is hk').symm.trans ek
      subst this
      have z := List.findIdx?_eq_none_iff.mp hr e he
      rw [hk'] at z
      cases z
    have ep1 : put1 ks i = ks ++ [i] := by unfold put1; rw [if_neg mem]
    have hgw : ∀ (b : Bool) {s₁ : Shared} {Q' : Unit → Shared → Prop}, Q' () s₁ → wpAny (model prog w) A (match b with | true => rule "set.scan.the-table-gave-way" | false => pure ()) Q' E s₁ :=
      fun b s₁ Q' hq => by cases b <;> first | exact wpAny_pure hq | exact wpAny_rule hq
    have hperm := layNew_perm t es ((intKind prog w).hash i) (.int i tk)
    have hfits := layNew_fits t es ((intKind prog w).hash i) (.int i tk)
    have hok := layNew_ok t es ((intKind prog w).hash i) (.int i tk) D.up
    generalize layNew t es ((intKind prog w).hash i) (.int i tk) = L at hperm hfits hok ⊢
    obtain ⟨es1, t1, dummy, gave⟩ := L
    dsimp only at hperm hfits hok ⊢
    rw [Array.toList_push] at hperm
    have els1 : ElemsOf (intKind prog w) es1.toList := (D.els.push hk rfl).perm hperm
    have keys1 : (es1.toList.map fun e => keyOf e.2).Perm (put1 ks i) := by
      rw [ep1]
      refine (hperm.map _).trans ?_
      rw [List.map_append]
      exact D.keys.append_right _
    have sz1 : es1.size = es.size + 1 := by rw [← Array.length_toList, hperm.length_eq, List.length_append, Array.length_toList]; rfl
    have bound1 : es1.size < scanBound := by omega
    have led1 : Led w t1 := D.led.imp id fun z => hok.2.trans z
    have tail : ∀ t2 : SetTable, t2.fits es1.size = true → Up t2.place → Led w t2 → wpAny (model prog w) A (do
        storeSet a es1 t2
        if (!dummy && t2.tooFull) = true then do
            (match (relayAll t2 es1 (SetTable.grown es1.size)).2.2 with | true => rule "set.scan.the-table-gave-way" | false => pure ())
            storeSet a (relayAll t2 es1 (SetTable.grown es1.size)).1 (relayAll t2 es1 (SetTable.grown es1.size)).2.1
            pure (some true)
          else pure (some true)) (fun r s' => ∃ b, r = some b ∧ Q b s') E s := by
      intro t2 f2 u2 l2
      refine wpAny_bind (store_L ho D.data D.exact els1 keys1 bound1 f2 u2 l2 fun h' o' sb ho' D' => ?_)
      split
      · have hp := relayAll_perm t2 es1 (SetTable.grown es1.size)
        have hf := relayAll_fits t2 es1 (SetTable.grown es1.size)
        have ho2 := relayAll_ok t2 es1 (SetTable.grown es1.size)
        generalize relayAll t2 es1 (SetTable.grown es1.size) = R at hp hf ho2 ⊢
        obtain ⟨es2, t3, gave2⟩ := R
        dsimp only at hp hf ho2 ⊢
        have sz2 : es2.size = es1.size := by rw [← Array.length_toList, hp.length_eq, Array.length_toList]
        refine wpAny_bind (hgw _ ?_)
        refine wpAny_bind (store_L ho' D'.data D'.exact (els1.perm hp) ((hp.map _).trans keys1) (by omega) hf ho2.1 (l2.imp id fun z => ho2.2.trans z) fun h'' o'' sb2 ho'' D'' => ?_)
        exact wpAny_pure ⟨true, rfl, h h'' true (sb.trans sb2) ⟨o'', _, _, _, ho'', D''⟩⟩
      · exact wpAny_pure ⟨true, rfl, h h' true sb ⟨o', _, _, _, ho', D'⟩⟩
    have fin : ∀ {m : Sem (Option Bool)} {k : Option Bool → Sem Bool}, (∀ b, k (some b) = pure b) → wpAny (model prog w) A m (fun r s' => ∃ b, r = some b ∧ Q b s') E s → wpAny (model prog w) A m (fun r s' => wpAny (model prog w) A (k r) Q E s') E s := fun hk hm =>
      wpAny_mono hm (fun r s' z => by obtain ⟨b, rfl, q⟩ := z; rw [hk]; exact wpAny_pure q) fun _ _ z => z
    refine wpAny_bind (hgw _ ?_)
    split
    · refine wpAny_bind ?_
      rw [hashByValue_scannable 8 rfl]
      refine wpAny_pure ?_
      exact fin (fun _ => rfl) (tail t1 hfits hok.1 led1)
    · refine wpAny_bind (wpAny_pure ?_)
      exact fin (fun _ => rfl) (tail t1 hfits hok.1 led1)
end
end L2

/-! SETS, three: set(list of ints). -/
namespace L2
open PySem PySem.Spec PyProof.Rows
theorem SetD.of_same {P : Program} {w : World} {a : Addr} {ks : List Int} {h h' : Heap} (x : SetL P w a ks h) (k : ∀ o, h.get? a = some o → h'.get? a = some o) : SetL P w a ks h' := by
  obtain ⟨o, es, ep, t, ho, D⟩ := x
  exact ⟨o, es, ep, t, k o ho, D⟩
theorem setL_fresh {P : Program} {w : World} {a : Addr} {h : Heap} (e : h.get? a = some { cls := .type "set", dict := none, data := .set #[] 0 (.fresh 0 0 (!w.params.followText "set-order")) }) : SetL P w a [] h := by
  refine ⟨_, #[], 0, _, e, ⟨rfl, rfl, rfl⟩, rfl, fun e he => by simp at he, by simp, by decide, rfl, List.Pairwise.nil, ?_⟩
  unfold Led
  cases w.params.followText "set-order"
  · exact .inr rfl
  · exact .inl rfl
section
variable {prog : Program} {w : World} {A : Around} {R : Result → Shared → Prop} {I : Addr} {fp wr : List Addr} {G : Array GenState → Array GenState → Prop} {n : Nat} {P : Nat → Value → Prop} {St : Nat → Shared → Prop}
theorem loop_L (W : WalksS prog w A.in1 I fp wr G n P St) (S : Addr) (hSf : S ∉ fp) (ns : List Int) (hn : ns.length = n) (hval : ∀ i v, P i v → ∃ t, v = .int (ns.getD i 0) t) (hb : n + 1 < scanBound) :
    ∀ (k i : Nat) (s : Shared), n - i = k → i ≤ n → St i s → SetL prog w S (unlike (ns.take i)) s.heap →
      (∀ s', Moved (S :: wr) G s s' → SetL prog w S (unlike ns) s'.heap → R (.ok (.ret .none)) s') →
      codeAny (model prog w) A (.builtin "set.update.loop" ⟨[.ref S, .ref I], []⟩) R s := by
  have hSw : S ∉ wr := fun h => hSf (W.sub _ h)
  have hsub : ∀ b ∈ wr, b ∈ S :: wr := fun b hb => List.mem_cons_of_mem _ hb
  intro k
  induction k with
  | zero =>
    intro i s hk hi hst hS hR
    obtain rfl : i = n := by omega
    rw [← hn, List.take_length] at hS
    refine codeAny_builtin F.entry_set_update_loop ?_
    rw [Around.under_plainId F.plain_set_update_loop _]
    show wpAny _ A.in1 (pyNext (.ref I) >>= _) _ _ s
    refine wpAny_bind (W.done s _ _ hst fun s' hm => ?_)
    show wpAny _ A.in1 (ret Value.none) _ _ s'
    exact wpAny_pure (hR s' (hm.mono hsub) (SetD.of_same hS fun o e => hm.heap S _ hSw e))
  | succ k ih =>
    intro i s hk hi hst hS hR
    have hlt : i < n := by omega
    refine codeAny_builtin F.entry_set_update_loop ?_
    rw [Around.under_plainId F.plain_set_update_loop _]
    show wpAny _ A.in1 (pyNext (.ref I) >>= _) _ _ s
    refine wpAny_bind (W.item i s _ _ hlt hst fun v s' hP hst' hm => ?_)
    obtain ⟨t, rfl⟩ := hval i v hP
    show wpAny _ A.in1 (holding [Value.int (ns.getD i 0) t] (setAdd S (.int (ns.getD i 0) t)) >>= _) _ _ s'
    refine wpAny_bind (wpAny_holding ?_)
    unfold setAdd
    refine wpAny_holding ?_
    refine wpAny_bind ((intKind prog w).pyHash (k := ns.getD i 0) (intKind_is _ _ _ _) ?_)
    have ln := unlike_len (ns.take i)
    rw [List.length_take] at ln
    have tk : ns.take (i + 1) = ns.take i ++ [ns.getD i 0] := by
      rw [List.take_add_one, List.getElem?_eq_getElem (by omega), List.getD_eq_getElem?_getD, List.getElem?_eq_getElem (by omega)]
      rfl
    refine setAdd_L (s := { s' with toks := s'.toks + 1 }) (SetD.of_same hS fun o e => hm.heap S _ hSw e) (by omega) fun h' b hsb hS2 => ?_
    rw [← unlike_snoc, ← tk] at hS2
    refine wpAny_pure ⟨plainId_quiet F.plain_set_update_loop _, ih (i + 1) _ (by omega) hlt (W.frame _ s' _ _ hst' (Nat.le_succ _) fun b hb o e => ?_) hS2 fun s'' hm'' hS'' => ?_⟩
    · rw [hsb.2 b (fun h : b = S => hSf (by rw [← h]; exact hb))]; exact e
    · refine hR s'' (Moved.trans W.gtrans ((hm.mono hsub).then_heap (Nat.le_succ _) fun b o hb e => ?_) hm'') hS''
      rw [hsb.2 b (fun h : b = S => hb (by rw [h]; exact List.mem_cons_self))]; exact e
end
section
variable {prog : Program} {w : World} {A : Around} {E : Value → Shared → Prop} {s : Shared}
def setO (w : World) : Obj := { cls := .type "set", dict := none, data := .set #[] 0 (.fresh 0 0 (!w.params.followText "set-order")) }
theorem set_new_L (a : Value) {Q₁ : Value → Shared → Prop} (h : Q₁ (.ref s.heap.objs.size) { s with heap := s.heap.push (setO w) }) :
    codeAny (model prog w) A (.call (.builtin "set.__new__") ⟨[.type "set", a], []⟩) (wants Q₁ E) s := by
  refine codeAny_of_tree ?_
  show wpAny _ A.in1 (do checkBuiltinCall "set.__new__" ⟨[.type "set", a], []⟩; again (.builtin "set.__new__" ⟨[.type "set", a], []⟩)) _ _ s
  refine wpAny_bind (wpAny_of_eq (F.newCall_set_1 a) (wpAny_pure ⟨plainId_quiet F.plain_set_new _, codeAny_builtin F.entry_set_new ?_⟩))
  rw [Around.under_plainId F.plain_set_new _]
  unfold Builtin.«set.__new__» Builtin.Frozenset.newClass
  have hsub := sub_set_self
  obtain ⟨hp, g, d, tk, os⟩ := s
  dsimp only
  wp_walk
  refine wpAny_askSetting (wpAny_pure ?_)
  dsimp only
  simp only [newObj]
  refine wpAny_bind (wpAny_alloc (wpAny_pure ?_))
  exact wpAny_pure h
set_option maxHeartbeats 3200000 in
theorem call_set_L {l : Addr} {items : Array Value} {ns : List Int} {Q : Value → Shared → Prop} (hh : A.handled = none) (hl : s.heap.IsList l items) (hi : IntsAre items.toList ns) (hb : items.size + 1 < scanBound)
    (h : ∀ (h' : Heap) (tk : Nat), SetL prog w s.heap.objs.size (unlike ns) h' → (∀ b o, s.heap.get? b = some o → h'.get? b = some o) → Q (.ref s.heap.objs.size) { s with heap := h', toks := tk }) :
    wpAny (model prog w) A (call (.type "set") [.ref l]) Q E s := by
  obtain ⟨c, tl, hmro⟩ := F.called_set.mro
  have hmade := F.called_set.made
  have hsub := F.called_set.sub
  refine wpAny_call (codeAny_of_tree ?_)
  show wpAny _ _ (callAny (.type "set") _) _ _ _
  refine wpAny_pure ⟨Code.quiet_builtin _ (by decide +kernel), codeAny_builtin F.entry_type_call ?_⟩
  rw [Around.under_plain (weight_type_call_type "set" [.ref l] []) rfl]
  have h1 := F.called_set.notType
  have h2 := F.called_set.canCreate
  have hct := F.typeCall_set_1 (.ref l)
  repeat (any_goals (first | assumption | wp_step))
  refine codeAny_mono (set_new_L (.ref l) (E := E) (Q₁ := fun obj s₁ => obj = .ref s.heap.objs.size ∧ s₁ = { s with heap := s.heap.push (setO w) }) ⟨rfl, rfl⟩) fun r s₁ hr => ?_
  cases r with
  | error e => exact hr
  | ok fl =>
    cases fl with
    | ret obj =>
      obtain ⟨rfl, rfl⟩ := hr
      have hS : (s.heap.push (setO w)).get? s.heap.objs.size = some (setO w) := Heap.get?_push_size _ rfl
      have hT : Shared.TypeIs { s with heap := s.heap.push (setO w) } (.ref s.heap.objs.size) "set" := ⟨_, hS, rfl⟩
      have hli := F.called_set.init.lookup
      have hbi := F.called_set.init.bind (.ref s.heap.objs.size)
      repeat (any_goals (first | assumption | wp_step))
      refine codeAny_mono (codeAny_call_builtin (R := wants (fun r s₂ => r = .none ∧ ∃ h' tk, s₂ = { s with heap := h', toks := tk } ∧ SetL prog w s.heap.objs.size (unlike ns) h' ∧ (∀ b o, s.heap.get? b = some o → h'.get? b = some o)) E) F.called_set.init.plain F.entry_set_init (check_set_init_1 hT ?_)) fun r₂ s₂ hr₂ => ?_
      · obtain ⟨ol, hol, hcl, nl, hdl⟩ := hl
        obtain ⟨ocls, odict, odata, oslots⟩ := ol
        simp only at hcl hdl
        subst hcl
        subst hdl
        have hol' : (s.heap.push (setO w)).get? l = some { cls := .type "list", dict := odict, data := .seq items nl, slots := oslots } := Heap.get?_push_of_some _ hol
        have hsls := F.sub_list_set
        have hslf := F.sub_list_frozenset
        have hne : (Value.type "list" == Value.type "dict") = false := by decide
        have hl1 : (s.heap.push (setO w)).IsList l items := ⟨_, hol', rfl, nl, rfl⟩
        unfold Builtin.«set.__init__» noKeywords Builtin.Frozenset.updateFrom
        generalize hPI : pyIter = PI
        wp_walk
        subst hPI
        refine wpAny_pyIter_list hl1 ?_
        refine wpAny_bind (wpAny_runValue ?_)
        have hlS : l < s.heap.objs.size := Heap.lt_size hol
        have hh3 : A.in1.in1.in1.handled = none := by simp [hh]
        have hz : (s.heap.push (setO w)).objs.size = s.heap.objs.size + 1 := Heap.size_push _ _
        have hneI : l ≠ (s.heap.push (setO w)).objs.size := by rw [hz]; exact Nat.ne_of_lt (Nat.lt_succ_of_lt hlS)
        have hSf : s.heap.objs.size ∉ [(s.heap.push (setO w)).objs.size, l] := by
          rw [hz]
          simp only [List.mem_cons, List.not_mem_nil, or_false, not_or]
          exact ⟨Nat.ne_of_lt (Nat.lt_succ_self _), Nat.ne_of_gt hlS⟩
        have hlen : ns.length = items.size := by rw [← hi.length, Array.length_toList]
        refine loop_L ((Walks.list hh3 _ l hneI items).toS) s.heap.objs.size hSf ns hlen (fun i v hv => IntsAre.int_at hi i v (by rw [Array.getElem?_toList]; exact hv)) hb (items.size - 0) 0 _ (by omega) (Nat.zero_le _) ⟨⟨_, Heap.get?_push_size _ rfl, rfl, rfl⟩, (hl1.push _)⟩ ?hS0 ?hR
        case hS0 => exact setL_fresh (Heap.get?_push_of_some _ hS)
        case hR =>
          intro s' hm hS'
          obtain ⟨h', g', d', tk', os'⟩ := s'
          have eg : g' = s.gens := hm.gens
          have ed : d' = s.drawn := hm.drawn
          have eo : os' = s.os := hm.os
          subst eg
          subst ed
          subst eo
          show wpAny _ _ _ _ _ _
          refine wpAny_pure ?_
          show wpAny _ _ (ret Value.none) _ _ _
          refine wpAny_pure ⟨rfl, h', tk', rfl, hS', fun b o e => ?_⟩
          have hb0 := Heap.lt_size e
          refine hm.heap b o (by rw [hz]; simp only [List.mem_cons, List.not_mem_nil, or_false, not_or]; exact ⟨Nat.ne_of_lt hb0, Nat.ne_of_lt (Nat.lt_succ_of_lt hb0)⟩) (Heap.get?_push_of_some _ (Heap.get?_push_of_some _ e))
      · cases r₂ with
        | error e => exact hr₂
        | ok fl₂ =>
          cases fl₂ with
          | ret r =>
            obtain ⟨rfl, h', tk, rfl, hS', hk'⟩ := hr₂
            repeat (any_goals (first | assumption | wp_step))
            exact h _ _ hS' hk'
          | _ => exact hr₂.elim
    | _ => exact hr.elim
end
end L2

/-! SETS, four: walking a set. -/
namespace L2
open PySem PySem.Spec PyProof.Rows
theorem slot_si_next : Slot "set_iterator" "__next__" "set_iterator.__next__" :=
  .of (owner := "set_iterator") (n := "__next__") (by rw [typeLookup_type, builtinLookup_eq_fast]; kernel_rfl) (by decide +kernel) (by decide +kernel) (by decide +kernel) (by first | exact .inl (by decide +kernel) | exact .inr (by decide +kernel)) (by rw [isSubtype_type]; kernel_rfl)
theorem entry_si_next : entryFor table "set_iterator.__next__" = some Builtin.«set_iterator.__next__» := entryFor_of_tree (by kernel_rfl)
theorem owner_si : Manifest.owners.lookup (String.ofList ['r', 'o', 't', 'a', 'r', 'e', 't', 'i', '_', 't', 'e', 's'].reverse) = some Manifest.sig_set_iterator := by kernel_rfl
theorem args_si_next (a : Value) : argsOk "set_iterator.__next__" ⟨[a], []⟩ := by
  unfold argsOk; rw [signature?_of (id := "set_iterator.__next__") (n := ['_', '_', 't', 'x', 'e', 'n', '_', '_']) (o := ['r', 'o', 't', 'a', 'r', 'e', 't', 'i', '_', 't', 'e', 's']) (by kernel_rfl) owner_si]; kernel_rfl
theorem slot_si_iter : Slot "set_iterator" "__iter__" "set_iterator.__iter__" :=
  .of (owner := "set_iterator") (n := "__iter__") (by rw [typeLookup_type, builtinLookup_eq_fast]; kernel_rfl) (by decide +kernel) (by decide +kernel) (by decide +kernel) (by first | exact .inl (by decide +kernel) | exact .inr (by decide +kernel)) (by rw [isSubtype_type]; kernel_rfl)
theorem args_si_iter (a : Value) : argsOk "set_iterator.__iter__" ⟨[a], []⟩ := by
  unfold argsOk; rw [signature?_of (id := "set_iterator.__iter__") (n := ['_', '_', 'r', 'e', 't', 'i', '_', '_']) (o := ['r', 'o', 't', 'a', 'r', 'e', 't', 'i', '_', 't', 'e', 's']) (by kernel_rfl) owner_si]; kernel_rfl
theorem entry_set_iter : entryFor table "set.__iter__" = some Builtin.«frozenset.__iter__» := entryFor_alias (id' := "frozenset.__iter__") (by kernel_rfl) rfl (by decide +kernel) (by kernel_rfl)
theorem len_set : typeLookup (.type "set") "__len__" = pure (some (.builtin "set.__len__")) := by rw [typeLookup_type, builtinLookup_eq_fast]; kernel_rfl
theorem entry_si_iter : entryFor table "set_iterator.__iter__" = some Builtin.«dict_keyiterator.__iter__» := entryFor_alias (id' := "dict_keyiterator.__iter__") (by kernel_rfl) rfl (by decide +kernel) (by kernel_rfl)
theorem erase_perm {α : Type} {l : List α} {i : Nat} (h : i < l.length) : (l[i] :: l.eraseIdx i).Perm l := by
  rw [List.eraseIdx_eq_take_drop_succ]
  have e : l.take i ++ l[i] :: l.drop (i + 1) = l := by rw [← List.drop_eq_getElem_cons h, List.take_append_drop]
  exact List.perm_middle.symm.trans (by rw [e])
theorem pick_go {α : Type} (next : Nat → Nat) : ∀ (fuel k : Nat) (left : List α) (out : Array α), fuel = left.length → (pickOrder.go next fuel k left out).toList.Perm (out.toList ++ left)
  | 0, k, left, out, h => by
    obtain rfl : left = [] := List.length_eq_zero_iff.mp h.symm
    rw [List.append_nil]
    exact .rfl
  | fuel + 1, k, left, out, h => by
    have hj : next k % left.length < left.length := Nat.mod_lt _ (by omega)
    rw [pickOrder.go, List.getElem?_eq_getElem hj]
    refine (pick_go next fuel _ _ _ (by rw [List.length_eraseIdx_of_lt hj]; omega)).trans ?_
    rw [Array.toList_push, List.append_assoc]
    exact (erase_perm hj).append_left _
theorem pick_perm {α : Type} (next : Nat → Nat) (xs : Array α) : (pickOrder next xs).toList.Perm xs.toList := by
  have := pick_go next xs.size 0 xs.toList #[] (by simp)
  simpa [pickOrder] using this
section
variable {prog : Program} {w : World} {A : Around} {E : Value → Shared → Prop} {s : Shared}
theorem byText_ {Q : Bool → Shared → Prop} (h : Q (w.params.followText "set-order") s) : wpAny (model prog w) A setsByText Q E s := by
  unfold setsByText
  exact wpAny_bind (wpAny_askSetting (wpAny_pure h))
variable {a : Addr} {o : Obj} {es : Array (Int × Value)} {ep : Nat} {t : SetTable} {ks : List Int}
theorem next_text {slot i : Nat} {Q : Option (Value × Nat) → Shared → Prop} (ho : s.heap.get? a = some o) (D : SetD prog w o es ep t ks) (hb : w.params.followText "set-order" = true)
    (h : Q (((pickOrder (w.params.setOrder a ep) es)[i]?).map fun e => (e.2, slot)) s) : wpAny (model prog w) A (setNext a slot i ep) Q E s := by
  unfold setNext
  refine wpAny_bind (wpAny_setState_of ho D.data D.fits ?_)
  dsimp only
  refine wpAny_bind (byText_ ?_)
  rw [if_pos hb, if_neg (by simp)]
  refine wpAny_bind ?_
  unfold setWalk
  refine wpAny_bind (wpAny_setState_of ho D.data D.fits ?_)
  dsimp only
  refine wpAny_bind (byText_ ?_)
  rw [if_pos hb]
  refine wpAny_bind (wpAny_askSetting (wpAny_pure ?_))
  exact wpAny_pure h
theorem next_led {slot : Nat} {i : Nat} {Q : Option (Value × Nat) → Shared → Prop} (ho : s.heap.get? a = some o) (D : SetD prog w o es ep t ks) (hb : w.params.followText "set-order" = false) (hp : t.plain = true ∨ es.size ≤ 1)
    (h : Q (match es[SetTable.below t.place slot]?, t.place[SetTable.below t.place slot]? with | some (_, x), some j => some (x, j + 1) | _, _ => none) s) : wpAny (model prog w) A (setNext a slot i ep) Q E s := by
  have led : t.led = true := D.led.elim (fun z => by rw [hb] at z; cases z) id
  unfold setNext
  refine wpAny_bind (wpAny_setState_of ho D.data D.fits ?_)
  dsimp only
  refine wpAny_bind (byText_ ?_)
  rw [if_neg (by rw [hb]; exact Bool.false_ne_true)]
  refine wpAny_ite_split (fun z => ?_) (fun _ => ?_)
  · have z' : (!t.plain && decide (es.size > 1)) = true := z
    rw [Bool.and_eq_true] at z'
    rcases hp with p | p
    · rw [p] at z'
      cases z'.1
    · have := of_decide_eq_true z'.2
      omega
  refine wpAny_bind (m := _) (Q := _) ?_
  show wpAny _ _ (if (!t.led && !es.isEmpty) = true then unsupported "set:maker-not-led" else pure ()) _ _ s
  rw [if_neg (by rw [led]; simp)]
  exact wpAny_pure (wpAny_pure h)
/-- the iterator -/
def SIter (h : Heap) (I a : Addr) (first : Value) (i n ep : Nat) : Prop := ∃ o, h.get? I = some o ∧ o.cls = .type "set_iterator" ∧ o.data = .fields #[first, .int i 0, .ref a, .int n 0, .int ep 0]
theorem SIter.typeIs {I : Addr} {first : Value} {i n : Nat} (x : SIter s.heap I a first i n ep) : s.TypeIs (.ref I) "set_iterator" := let ⟨o, ho, hc, _⟩ := x; ⟨o, ho, hc⟩
theorem pyNext_some {I : Addr} {slot nx i : Nat} {x : Value} {Q : Option Value → Shared → Prop} (hit : SIter s.heap I a (.int slot 0) i es.size ep) (ho : s.heap.get? a = some o) (D : SetD prog w o es ep t ks)
    (hx : ∀ (A : Around) (E : Value → Shared → Prop) (Q : Option (Value × Nat) → Shared → Prop), Q (some (x, nx)) s → wpAny (model prog w) A (setNext a slot i ep) Q E s)
    (hQ : ∀ h', SIter h' I a (.int nx 0) (i + 1) es.size ep → Heap.SameBut I s.heap h' → Q (some x) { s with heap := h' }) : wpAny (model prog w) A (pyNext (.ref I)) Q E s := by
  obtain ⟨oi, hoi, hc, hd⟩ := id hit
  unfold pyNext
  refine wpAny_bind (wpAny_attempt (wpAny_callSpecial?_slot (name := Str.ofString "__next__") hit.typeIs slot_si_next (wpAny_call_entry slot_si_next hit.typeIs entry_si_next ?_ (args_si_next _))))
  unfold Builtin.«set_iterator.__next__»
  refine wpAny_bind (wpAny_pure ?_)
  refine wpAny_bind (wpAny_fieldsOf hoi hd ?_)
  dsimp only
  refine wpAny_bind (wpAny_setEntries_of ho D.data D.fits ?_)
  rw [if_neg (by simp)]
  simp only [Int.toNat_natCast]
  refine wpAny_bind (hx _ _ _ ?_)
  dsimp only
  refine wpAny_bind (wpAny_setField hoi hd (by simp) ?_)
  have h1 := Heap.get?_update_self (Obj.mapFields (·.setIfInBounds 0 (rawInt (nx : Int)))) hoi (Obj.isFreed_of_fields (Obj.data_mapFields hd _))
  have d1 := Obj.data_mapFields hd (·.setIfInBounds 0 (rawInt (nx : Int)))
  refine wpAny_bind (wpAny_setField h1 d1 (by simp) ?_)
  have h2 := Heap.get?_update_self (Obj.mapFields (·.setIfInBounds 1 (rawInt ((i : Int) + 1)))) h1 (Obj.isFreed_of_fields (Obj.data_mapFields d1 _))
  have d2 := Obj.data_mapFields d1 (·.setIfInBounds 1 (rawInt ((i : Int) + 1)))
  refine wpAny_pure ⟨x, rfl, wpAny_pure (hQ _ ⟨_, h2, (Obj.cls_mapFields ..).trans ((Obj.cls_mapFields ..).trans hc), ?_⟩ ((Heap.SameBut.update ..).trans (Heap.SameBut.update ..)))⟩
  rw [d2]
  simp [rawInt]
theorem pyNext_none {I : Addr} {slot i : Nat} {Q : Option Value → Shared → Prop} (hh : A.handled = none) (hit : SIter s.heap I a (.int slot 0) i es.size ep) (ho : s.heap.get? a = some o) (D : SetD prog w o es ep t ks)
    (hx : ∀ (A : Around) (E : Value → Shared → Prop) (Q : Option (Value × Nat) → Shared → Prop), Q none s → wpAny (model prog w) A (setNext a slot i ep) Q E s)
    (hQ : ∀ h', Heap.ExtBut I s.heap h' → Q none { s with heap := h' }) : wpAny (model prog w) A (pyNext (.ref I)) Q E s := by
  obtain ⟨oi, hoi, hc, hd⟩ := id hit
  unfold pyNext
  refine wpAny_bind (wpAny_attempt (wpAny_callSpecial?_slot (name := Str.ofString "__next__") hit.typeIs slot_si_next (wpAny_call_entry slot_si_next hit.typeIs entry_si_next ?_ (args_si_next _))))
  unfold Builtin.«set_iterator.__next__»
  refine wpAny_bind (wpAny_pure ?_)
  refine wpAny_bind (wpAny_fieldsOf hoi hd ?_)
  dsimp only
  refine wpAny_bind (wpAny_setEntries_of ho D.data D.fits ?_)
  rw [if_neg (by simp)]
  simp only [Int.toNat_natCast]
  refine wpAny_bind (hx _ _ _ ?_)
  dsimp only
  refine wpAny_bind (wpAny_setField hoi hd (by simp) ?_)
  refine wpAny_bind ?_
  simp only [newExc, newTuple]
  refine wpAny_bind (wpAny_newObj_type ?_ (by size_fits))
  refine wpAny_bind (m := firstArgMember _ _) (wpAny_of_eq (a := Value.none) (by first | rfl | (simp only [firstArgMember]; rfl)) ?_)
  refine wpAny_newObj_type ?_ (by size_fits)
  simp only [raiseNew]
  refine wpAny_bind (wpAny_handled ?_)
  rw [show A.in1.handled = none from hh]
  refine wpAny_bind (wpAny_pure (wpAny_throw ?_))
  refine wpAny_bind (wpAny_isInstance (T := "StopIteration") (b := true) ⟨_, Heap.get?_push_size _ rfl, rfl⟩ isSubtype_stop ?_)
  exact wpAny_pure (hQ _ (((Heap.SameBut.update ..).extBut.push _).push _))
theorem pyIter_self {I : Addr} {first : Value} {i n : Nat} {Q : Value → Shared → Prop} (hit : SIter s.heap I a first i n ep) (h : Q (.ref I) s) : wpAny (model prog w) A (pyIter (.ref I)) Q E s := by
  refine wpAny_pyIter_slot hit.typeIs slot_si_iter (wpAny_call_entry slot_si_iter hit.typeIs entry_si_iter ?_ (args_si_iter _))
  show wpAny _ _ (ret (.ref I)) _ _ s
  exact wpAny_pure ⟨_, rfl, "set_iterator", _, hit.typeIs, slot_si_next.lookup, h⟩
/-- where each turn finds its item -/
structure Way (prog : Program) (w : World) (a : Addr) (es : Array (Int × Value)) (ep : Nat) (t : SetTable) (o : Obj) (slotAt : Nat → Nat) (its : Array (Int × Value)) : Prop where
  perm : its.toList.Perm es.toList
  zero : slotAt 0 = 0
  item : ∀ (s : Shared) (A : Around) (E : Value → Shared → Prop) (Q : Option (Value × Nat) → Shared → Prop) (i : Nat) (e : Int × Value), s.heap.get? a = some o → its[i]? = some e → Q (some (e.2, slotAt (i + 1))) s → wpAny (model prog w) A (setNext a (slotAt i) i ep) Q E s
  done : ∀ (s : Shared) (A : Around) (E : Value → Shared → Prop) (Q : Option (Value × Nat) → Shared → Prop), s.heap.get? a = some o → Q none s → wpAny (model prog w) A (setNext a (slotAt es.size) es.size ep) Q E s
theorem way_text (D : SetD prog w o es ep t ks) (hb : w.params.followText "set-order" = true) : Way prog w a es ep t o (fun _ => 0) (pickOrder (w.params.setOrder a ep) es) where
  perm := pick_perm _ _
  zero := rfl
  item := fun s A E Q i e ho he q => next_text ho D hb (by rw [he]; exact q)
  done := fun s A E Q ho q => next_text ho D hb (by
    have l : (pickOrder (w.params.setOrder a ep) es).size = es.size := by rw [← Array.length_toList, (pick_perm _ _).length_eq, Array.length_toList]
    rw [Array.getElem?_eq_none (by omega)]
    exact q)
def slotL (t : SetTable) : Nat → Nat
  | 0 => 0
  | i + 1 => t.place.getD i 0 + 1
theorem below_slot {t : SetTable} (u : Up t.place) : ∀ i, i ≤ t.place.size → SetTable.below t.place (slotL t i) = i
  | 0, _ => below_zero u
  | i + 1, h => below_next u (by rw [Array.getD_eq_getD_getElem?, Array.getElem?_eq_getElem (by omega)]; rfl)
theorem way_led (D : SetD prog w o es ep t ks) (hb : w.params.followText "set-order" = false) (hp : t.plain = true ∨ es.size ≤ 1) : Way prog w a es ep t o (slotL t) es where
  perm := .rfl
  zero := rfl
  item := fun s A E Q i e ho he q => by
    have sz : t.place.size = es.size := by have := D.fits; simp only [SetTable.fits, Bool.and_eq_true, beq_iff_eq] at this; exact this.1
    have hi : i < es.size := (Array.getElem?_eq_some_iff.mp he).1
    have ep' : t.place[i]? = some (t.place.getD i 0) := by rw [Array.getD_eq_getD_getElem?, Array.getElem?_eq_getElem (by omega)]; rfl
    refine next_led ho D hb hp ?_
    rw [below_slot D.up i (by omega), he, ep']
    exact q
  done := fun s A E Q ho q => by
    have sz : t.place.size = es.size := by have := D.fits; simp only [SetTable.fits, Bool.and_eq_true, beq_iff_eq] at this; exact this.1
    refine next_led ho D hb hp ?_
    rw [below_slot D.up _ (by omega), Array.getElem?_eq_none (Nat.le_refl _)]
    exact q
theorem walks_way {I : Addr} {slotAt : Nat → Nat} {its : Array (Int × Value)} (hh : A.handled = none) (D : SetD prog w o es ep t ks) (W : Way prog w a es ep t o slotAt its) (hne : a ≠ I) :
    Walks prog w A I [I, a] [I] es.size (fun i v => (its.map (·.2))[i]? = some v) (fun i h => SIter h I a (.int (slotAt i) 0) i es.size ep ∧ h.get? a = some o) where
  sub := fun b hb => by simp at hb; simp [hb]
  frame := fun i h h' st hk => by
    obtain ⟨⟨oi, e, x⟩, st2⟩ := st
    exact ⟨⟨oi, hk I (by simp) oi e, x⟩, hk a (by simp) o st2⟩
  item := fun i s Q E hi st hQ => by
    have l : its.size = es.size := by rw [← Array.length_toList, W.perm.length_eq, Array.length_toList]
    have he : its[i]? = some its[i] := Array.getElem?_eq_getElem (by omega)
    refine pyNext_some st.1 st.2 D (fun A E Q q => W.item s A E Q i _ st.2 he q) fun h' hit' hs' => ?_
    exact hQ _ h' s.toks (by rw [Array.getElem?_map, he]; rfl) ⟨hit', hs'.extBut a o hne st.2⟩ fun b ob hb e => hs'.extBut b ob (fun h => hb (by simp [h])) e
  done := fun s Q E st hQ => pyNext_none hh st.1 st.2 D (fun A E Q q => W.done s A E Q st.2 q) fun h' he' => hQ h' s.toks fun b ob hb e => he' b ob (fun h => hb (by simp [h])) e
  self := fun i s Q E st hQ => pyIter_self st.1 hQ
end
end L2

/-! SETS, five: a set whose order is drawn; all items of a set; sorted(set). -/
namespace L2
open PySem PySem.Spec PyProof.Rows
section
variable {prog : Program} {w : World} {A : Around} {E : Value → Shared → Prop} {s : Shared}
theorem choose_ {src : Source} {n : Nat} {Q : Nat → Shared → Prop} (hn : n ≠ 0) (h : ∀ i d, i < n → Q i { s with drawn := d }) : wpAny (model prog w) A (choose src n) Q E s := by
  intro Γ p hΓ
  unfold choose
  rw [Sem.wp_choose]
  exact ⟨hn, h _ _ (Nat.mod_lt _ (Nat.pos_of_ne_zero hn))⟩
theorem draw_ {α : Type} : ∀ (n : Nat) (xs : List α) (s : Shared) (Q : List α → Shared → Prop), n = xs.length → (∀ l d, l.Perm xs → Q l { s with drawn := d }) → wpAny (model prog w) A (drawOrder n xs) Q E s
  | 0, xs, s, Q, hn, h => by
    obtain rfl : xs = [] := List.length_eq_zero_iff.mp hn.symm
    rw [drawOrder]
    exact wpAny_pure (h [] s.drawn .rfl)
  | n + 1, [], s, Q, hn, h => nomatch hn
  | n + 1, x :: r, s, Q, hn, h => by
    rw [drawOrder]
    · refine wpAny_bind (choose_ (by simp) fun i d hi => ?_)
      rw [List.getElem?_eq_getElem hi]
      refine wpAny_bind (draw_ n _ _ _ (by rw [List.length_eraseIdx_of_lt hi]; omega) fun l d' hp => ?_)
      exact wpAny_pure (h _ d' ((hp.cons _).trans (erase_perm hi)))
    · intro z
      cases z
variable {a : Addr} {o : Obj} {es : Array (Int × Value)} {ep : Nat} {t : SetTable} {ks : List Int}
theorem drawn_ {Q : Bool → Shared → Prop} (ho : s.heap.get? a = some o) (D : SetD prog w o es ep t ks) (h1 : (w.params.followText "set-order" = true ∨ t.plain = true ∨ es.size ≤ 1) → Q false s) (h2 : w.params.followText "set-order" = false → Q true s) : wpAny (model prog w) A (setDrawn a) Q E s := by
  unfold setDrawn
  refine wpAny_bind (wpAny_setState_of ho D.data D.fits ?_)
  dsimp only
  refine wpAny_bind (byText_ (wpAny_pure ?_))
  show Q (!w.params.followText "set-order" && (!t.plain && decide (es.size > 1))) s
  cases hb : w.params.followText "set-order" with
  | true => exact h1 (.inl hb)
  | false =>
    cases hp : t.plain with
    | true => exact h1 (.inr (.inl hp))
    | false =>
      by_cases c : es.size > 1
      · rw [decide_eq_true c]
        exact h2 hb
      · rw [decide_eq_false c]
        exact h1 (.inr (.inr (by omega)))
def iterO (a : Addr) (first : Value) (n ep : Nat) : Obj := { cls := .type "set_iterator", data := .fields #[first, .int 0 0, .ref a, .int n 0, .int ep 0] }
theorem pyIter_set {Q : Value → Shared → Prop} (ho : s.heap.get? a = some o) (D : SetD prog w o es ep t ks)
    (h1 : (w.params.followText "set-order" = true ∨ t.plain = true ∨ es.size ≤ 1) → Q (.ref s.heap.objs.size) { s with heap := s.heap.push (iterO a (.int 0 0) es.size ep) })
    (h2 : ∀ (l : List Nat) d, l.Perm (List.range es.size) → Q (.ref (s.heap.objs.size + 1)) { s with heap := (s.heap.push (seqObj "tuple" (l.map fun (i : Nat) => rawInt i).toArray 0)).push (iterO a (.ref s.heap.objs.size) es.size ep), drawn := d }) :
    wpAny (model prog w) A (pyIter (.ref a)) Q E s := by
  have hT : s.TypeIs (.ref a) "set" := ⟨o, ho, D.exact.1⟩
  refine wpAny_pyIter_slot hT PySem.F.slot_set_iter (wpAny_call_entry PySem.F.slot_set_iter hT entry_set_iter ?_ (PySem.F.args_set_iter_1 _))
  unfold Builtin.«frozenset.__iter__»
  refine wpAny_bind ?_
  show wpAny _ _ (pure a) _ _ s
  refine wpAny_pure ?_
  refine wpAny_bind ?_
  unfold Builtin.Frozenset.sizeOf
  refine wpAny_bind (wpAny_setEntries_of ho D.data D.fits (wpAny_pure ?_))
  refine wpAny_bind (drawn_ ho D (fun c => ?_) (fun hb => ?_))
  · dsimp only
    rw [if_neg Bool.false_ne_true]
    refine wpAny_bind (wpAny_pure ?_)
    refine wpAny_bind (wpAny_setEpoch_of ho D.data D.fits ?_)
    refine wpAny_bind (wpAny_newObj_type ?_)
    exact wpAny_pure ⟨_, rfl, "set_iterator", _, ⟨_, Heap.get?_push_size _ rfl, rfl⟩, slot_si_next.lookup, h1 c⟩
  · dsimp only
    rw [if_pos rfl]
    refine wpAny_bind (draw_ _ _ _ _ (by rw [List.length_range]) fun l d hl => ?_)
    have sz : l.length ≤ sizeLine := by rw [hl.length_eq, List.length_range]; exact fits_of_scanBound D.bound
    refine wpAny_bind (wpAny_newTuple ?_ (by simpa using sz))
    refine wpAny_bind (wpAny_setEpoch_of (Heap.get?_push_of_some _ ho) D.data D.fits ?_)
    refine wpAny_bind (wpAny_newObj_type ?_)
    refine wpAny_pure ⟨_, rfl, "set_iterator", _, ⟨_, Heap.get?_push_size _ rfl, rfl⟩, slot_si_next.lookup, ?_⟩
    have := h2 l d hl
    have e : (s.heap.push (seqObj "tuple" (l.map fun (i : Nat) => rawInt i).toArray 0)).objs.size = s.heap.objs.size + 1 := Heap.size_push _ _
    rw [← e] at this
    exact this
theorem seqItems_ {T : Addr} {xs : Array Value} {n : Nat} {c : String} {Q : Option (Array Value) → Shared → Prop} (h : s.heap.get? T = some (seqObj c xs n)) (q : Q (some xs) s) : wpAny (model prog w) A (seqItems? (.ref T)) Q E s := by
  unfold seqItems?
  refine wpAny_bind (wpAny_load h ?_)
  exact wpAny_pure q
theorem nextDrawn_ {p : Nat} {x : Int × Value} {Q : Value → Shared → Prop} (ho : s.heap.get? a = some o) (D : SetD prog w o es ep t ks) (hx : es[p]? = some x) (q : Q x.2 s) : wpAny (model prog w) A (setNextDrawn a p ep) Q E s := by
  unfold setNextDrawn
  refine wpAny_bind (wpAny_setState_of ho D.data D.fits ?_)
  dsimp only
  rw [if_neg (by simp), hx]
  exact wpAny_pure q
theorem pyNextC_some {I T : Addr} {i p : Nat} {l : List Nat} {x : Int × Value} {Q : Option Value → Shared → Prop} (hit : SIter s.heap I a (.ref T) i es.size ep) (ho : s.heap.get? a = some o) (D : SetD prog w o es ep t ks)
    (hT : s.heap.get? T = some (seqObj "tuple" (l.map fun (i : Nat) => rawInt i).toArray 0)) (hp : l[i]? = some p) (hx : es[p]? = some x)
    (hQ : ∀ h', SIter h' I a (.ref T) (i + 1) es.size ep → Heap.SameBut I s.heap h' → Q (some x.2) { s with heap := h' }) : wpAny (model prog w) A (pyNext (.ref I)) Q E s := by
  obtain ⟨oi, hoi, hc, hd⟩ := id hit
  unfold pyNext
  refine wpAny_bind (wpAny_attempt (wpAny_callSpecial?_slot (name := Str.ofString "__next__") hit.typeIs slot_si_next (wpAny_call_entry slot_si_next hit.typeIs entry_si_next ?_ (args_si_next _))))
  unfold Builtin.«set_iterator.__next__»
  refine wpAny_bind (wpAny_pure ?_)
  refine wpAny_bind (wpAny_fieldsOf hoi hd ?_)
  dsimp only
  refine wpAny_bind (wpAny_setEntries_of ho D.data D.fits ?_)
  rw [if_neg (by simp)]
  have hp' : ((l.map fun (i : Nat) => rawInt i).toArray)[i]? = some (.int (p : Int) 0) := by rw [List.getElem?_toArray, List.getElem?_map, hp]; rfl
  refine wpAny_bind (seqItems_ hT ?_)
  dsimp only
  simp only [Int.toNat_natCast]
  rw [hp']
  dsimp only
  simp only [Int.toNat_natCast]
  refine wpAny_bind (nextDrawn_ ho D hx ?_)
  refine wpAny_bind (wpAny_setField hoi hd (by simp) ?_)
  have h1 := Heap.get?_update_self (Obj.mapFields (·.setIfInBounds 1 (rawInt ((i : Int) + 1)))) hoi (Obj.isFreed_of_fields (Obj.data_mapFields hd _))
  have d1 := Obj.data_mapFields hd (·.setIfInBounds 1 (rawInt ((i : Int) + 1)))
  refine wpAny_pure ⟨x.2, rfl, wpAny_pure (hQ _ ⟨_, h1, (Obj.cls_mapFields ..).trans hc, ?_⟩ (Heap.SameBut.update ..))⟩
  rw [d1]
  simp [rawInt]
theorem pyNextC_none {I T : Addr} {i : Nat} {l : List Nat} {Q : Option Value → Shared → Prop} (hh : A.handled = none) (hit : SIter s.heap I a (.ref T) i es.size ep) (ho : s.heap.get? a = some o) (D : SetD prog w o es ep t ks)
    (hT : s.heap.get? T = some (seqObj "tuple" (l.map fun (i : Nat) => rawInt i).toArray 0)) (hp : l.length ≤ i) (hQ : ∀ h', Heap.ExtBut I s.heap h' → Q none { s with heap := h' }) : wpAny (model prog w) A (pyNext (.ref I)) Q E s := by
  obtain ⟨oi, hoi, hc, hd⟩ := id hit
  unfold pyNext
  refine wpAny_bind (wpAny_attempt (wpAny_callSpecial?_slot (name := Str.ofString "__next__") hit.typeIs slot_si_next (wpAny_call_entry slot_si_next hit.typeIs entry_si_next ?_ (args_si_next _))))
  unfold Builtin.«set_iterator.__next__»
  refine wpAny_bind (wpAny_pure ?_)
  refine wpAny_bind (wpAny_fieldsOf hoi hd ?_)
  dsimp only
  refine wpAny_bind (wpAny_setEntries_of ho D.data D.fits ?_)
  rw [if_neg (by simp)]
  have hp' : ((l.map fun (i : Nat) => rawInt i).toArray)[i]? = none := by rw [List.getElem?_toArray, List.getElem?_map, List.getElem?_eq_none hp]; rfl
  refine wpAny_bind (seqItems_ hT ?_)
  dsimp only
  simp only [Int.toNat_natCast]
  rw [hp']
  dsimp only
  refine wpAny_bind (wpAny_setField hoi hd (by simp) ?_)
  have h1 := Heap.get?_update_self (Obj.mapFields (·.setIfInBounds 0 (rawInt 0))) hoi (Obj.isFreed_of_fields (Obj.data_mapFields hd _))
  have d1 := Obj.data_mapFields hd (·.setIfInBounds 0 (rawInt 0))
  refine wpAny_bind (wpAny_setField h1 d1 (by simp) ?_)
  refine wpAny_bind ?_
  simp only [newExc, newTuple]
  refine wpAny_bind (wpAny_newObj_type ?_ (by size_fits))
  refine wpAny_bind (m := firstArgMember _ _) (wpAny_of_eq (a := Value.none) (by first | rfl | (simp only [firstArgMember]; rfl)) ?_)
  refine wpAny_newObj_type ?_ (by size_fits)
  simp only [raiseNew]
  refine wpAny_bind (wpAny_handled ?_)
  rw [show A.in1.handled = none from hh]
  refine wpAny_bind (wpAny_pure (wpAny_throw ?_))
  refine wpAny_bind (wpAny_isInstance (T := "StopIteration") (b := true) ⟨_, Heap.get?_push_size _ rfl, rfl⟩ isSubtype_stop ?_)
  exact wpAny_pure (hQ _ ((((Heap.SameBut.update ..).trans (Heap.SameBut.update ..)).extBut.push _).push _))
theorem walks_drawn {I T : Addr} {l : List Nat} (hh : A.handled = none) (D : SetD prog w o es ep t ks) (hl : l.Perm (List.range es.size)) (hne : a ≠ I) (hnT : T ≠ I) :
    Walks prog w A I [I, a, T] [I] es.size (fun i v => ((l.map fun p => (es.getD p (0, .none)).2))[i]? = some v) (fun i h => (SIter h I a (.ref T) i es.size ep ∧ h.get? a = some o) ∧ h.get? T = some (seqObj "tuple" (l.map fun (i : Nat) => rawInt i).toArray 0)) where
  sub := fun b hb => by simp at hb; simp [hb]
  frame := fun i h h' st hk => by
    obtain ⟨⟨⟨oi, e, x⟩, st2⟩, st3⟩ := st
    exact ⟨⟨⟨oi, hk I (by simp) oi e, x⟩, hk a (by simp) o st2⟩, hk T (by simp) _ st3⟩
  item := fun i s Q E hi st hQ => by
    have ln : l.length = es.size := by rw [hl.length_eq, List.length_range]
    have hp : l[i]? = some l[i] := List.getElem?_eq_getElem (by omega)
    have pm : l[i] < es.size := List.mem_range.mp (hl.mem_iff.mp (List.getElem_mem _))
    have hx : es[l[i]]? = some (es.getD l[i] (0, .none)) := by rw [Array.getD_eq_getD_getElem?, Array.getElem?_eq_getElem pm]; rfl
    refine pyNextC_some st.1.1 st.1.2 D st.2 hp hx fun h' hit' hs' => ?_
    exact hQ _ h' s.toks (by rw [List.getElem?_map, hp]; rfl) ⟨⟨hit', hs'.extBut a o hne st.1.2⟩, hs'.extBut T _ hnT st.2⟩ fun b ob hb e => hs'.extBut b ob (fun h => hb (by simp [h])) e
  done := fun s Q E st hQ => pyNextC_none hh st.1.1 st.1.2 D st.2 (by rw [hl.length_eq, List.length_range]; exact Nat.le_refl _) fun h' he' => hQ h' s.toks fun b ob hb e => he' b ob (fun h => hb (by simp [h])) e
  self := fun i s Q E st hQ => pyIter_self st.1.1 hQ
theorem drawn_perm {l : List Nat} (hl : l.Perm (List.range es.size)) : (l.map fun p => (es.getD p (0, .none)).2).Perm (es.toList.map (·.2)) := by
  refine (hl.map _).trans ?_
  rw [show (fun p => (es.getD p (0, Value.none)).2) = (fun x : Int × Value => x.2) ∘ (fun p => es.getD p (0, .none)) from rfl, ← List.map_map]
  refine List.Perm.map _ ?_
  have e : (List.range es.size).map (fun p => es.getD p (0, .none)) = es.toList := by
    refine List.ext_getElem? fun i => ?_
    rw [List.getElem?_map]
    by_cases h : i < es.size
    · rw [List.getElem?_range h, Array.getElem?_toList, Array.getElem?_eq_getElem h]
      show some (es.getD i _) = _
      rw [Array.getD_eq_getD_getElem?, Array.getElem?_eq_getElem h]
      rfl
    · rw [List.getElem?_eq_none (by rw [List.length_range]; omega), List.getElem?_eq_none (by rw [Array.length_toList]; omega)]
      rfl
  rw [e]
end
end L2

/-! SETS, six: all items of a set; sorted(set). -/
namespace L2
open PySem PySem.Spec PyProof.Rows PySem.W
section
variable {prog : Program} {w : World} {A : Around} {E : Value → Shared → Prop} {s : Shared}
theorem hint_set {r : Addr} {Q : Bool → Shared → Prop} (hT : s.TypeIs (.ref r) "set") (h : Q false s) : wpAny (model prog w) A (Builtin.List.listLengthHint (.ref r)) Q E s := by
  unfold Builtin.List.listLengthHint
  refine wpAny_bind (wpAny_specialOf hT len_set ?_)
  generalize hid : ("set.__len__" : String) = id0
  wp_delta
  rw [show splitId id0 = some ("set", "__len__") from by subst hid; decide +kernel]
  subst hid
  refine wpAny_bind (wpAny_isInstance (T := "set") (b := true) hT (by rw [isSubtype_type]; kernel_rfl) ?_)
  refine wpAny_ite_split (fun hab => absurd hab (by decide)) (fun _ => ?_)
  refine wpAny_ite_split (fun _ => ?_) (fun hab => absurd (by decide +kernel) hab)
  refine wpAny_bind (wpAny_typeOf hT ?_)
  exact wpAny_pure h
/-- the loop that takes all items, from a state of the iterator on -/
theorem take_all {I S : Addr} {fp : List Addr} {n : Nat} {P : Nat → Value → Prop} {St : Nat → Heap → Prop} {R : Result → Shared → Prop} {res : Value} {c₁ : Nat} (W : Walks prog w A.in1 I fp [I] n P St) (hn : n ≤ sizeLine) (hSf : S ∉ fp)
    (hst : St 0 s.heap) (hS : s.heap.get? S = some { cls := .type "list", data := .seq #[] c₁ })
    (hR : ∀ h' tk acc' c', (∀ b o, b ≠ S → b ≠ I → s.heap.get? b = some o → h'.get? b = some o) → h'.get? S = some { cls := .type "list", dict := none, data := .seq acc' c', slots := #[] } → ItemsOf P acc' n → R (.ok (.ret res)) { s with heap := h', toks := tk }) :
    codeAny (model prog w) A (.builtin "list.extend.loop" ⟨[.ref S, .ref I, res], []⟩) R s := by
  refine codeAny_extend_loopS W.toS hn S hSf res n 0 _ #[] c₁ rfl (Nat.zero_le _) hst hS (ItemsOf.nil _) fun s' acc' c' hm hS' hacc => ?_
  rw [Moved.eq_with hm]
  refine hR s'.heap s'.toks acc' c' (fun b o hb hI e => hm.heap b o (fun hmem => ?_) e) hS' hacc
  rcases List.mem_cons.mp hmem with e' | hmem
  · exact hb e'
  · exact hI (List.mem_singleton.mp hmem)
theorem room_tail {I S : Addr} {b : Bool} {fp : List Addr} {n : Nat} {P : Nat → Value → Prop} {St : Nat → Heap → Prop} {R : Result → Shared → Prop} {res : Value} {c₁ : Nat} (W : Walks prog w A.in1 I fp [I] n P St) (hn : n ≤ sizeLine) (hSf : S ∉ fp)
    (hst : St 0 s.heap) (hS : s.heap.get? S = some { cls := .type "list", data := .seq #[] c₁ })
    (hR : ∀ h' tk acc' c', (∀ b o, b ≠ S → b ≠ I → s.heap.get? b = some o → h'.get? b = some o) → h'.get? S = some { cls := .type "list", dict := none, data := .seq acc' c', slots := #[] } → ItemsOf P acc' n → R (.ok (.ret res)) { s with heap := h', toks := tk }) :
    wpAny (model prog w) A.in1 (if b = true then do
        rule "list.extend.makes-room"
        Builtin.List.listTouch (.ref S)
        again (.builtin "list.extend.loop" ⟨[.ref S, .ref I, res], []⟩)
      else again (.builtin "list.extend.loop" ⟨[.ref S, .ref I, res], []⟩))
      (fun fin s' => match fin with | .done f => R (.ok f) s' | .again c' => c'.quiet = true ∧ codeAny (model prog w) A c' R s') (fun e s' => R (.error e) s') s := by
  cases b with
  | false =>
    rw [if_neg Bool.false_ne_true]
    exact wpAny_pure ⟨plainId_quiet PySem.F.plain_extend_loop _, take_all W hn hSf hst hS hR⟩
  | true =>
    rw [if_pos rfl]
    refine wpAny_bind (wpAny_rule ?_)
    refine wpAny_bind ?_
    show wpAny _ _ (updateSeq S (·.push .none) >>= fun _ => updateSeq S (·.pop)) _ _ _
    refine wpAny_bind (wpAny_updateSeq hS rfl ?_)
    have hS₂ := Heap.get?_update_self (Obj.mapSeq (·.push Value.none)) hS rfl
    refine wpAny_updateSeq (hz := by seq_fits) hS₂ rfl ?_
    have hS₃ := Heap.get?_update_self (Obj.mapSeq (·.pop)) hS₂ rfl
    have oth : ∀ b o, b ≠ S → s.heap.get? b = some o → ((s.heap.update S (Obj.mapSeq (·.push Value.none))).update S (Obj.mapSeq (·.pop))).get? b = some o := fun b o hb e => (Heap.get?_update_other _ _ (Ne.symm hb)).trans ((Heap.get?_update_other _ _ (Ne.symm hb)).trans e)
    refine wpAny_pure ⟨plainId_quiet PySem.F.plain_extend_loop _, take_all W hn hSf (W.frame 0 _ _ hst fun b hb o e => oth b o (fun h => hSf (h ▸ hb)) e) hS₃ fun h' tk acc' c' hk hS' hacc => ?_⟩
    exact hR h' tk acc' c' (fun b o hb hI e => hk b o hb hI (oth b o hb e)) hS' hacc
variable {a : Addr} {o : Obj} {es : Array (Int × Value)} {ep : Nat} {t : SetTable} {ks : List Int}
theorem items_perm {P : Nat → Value → Prop} {its : List Value} {acc : Array Value} {n : Nat} (hP : ∀ i v, P i v → its[i]? = some v) (hn : its.length = n) (h : ItemsOf P acc n) : acc.toList = its := by
  refine List.ext_getElem? fun i => ?_
  by_cases c : i < n
  · have hi : i < acc.size := by rw [h.1]; exact c
    have e : acc[i]? = some acc[i] := Array.getElem?_eq_getElem hi
    rw [Array.getElem?_toList, e, hP i _ (h.2 i _ e)]
  · rw [List.getElem?_eq_none (by rw [Array.length_toList, h.1]; omega), List.getElem?_eq_none (by omega)]
theorem collect_code {R : Result → Shared → Prop} (hh : A.handled = none) (ho : s.heap.get? a = some o) (D : SetD prog w o es ep t ks)
    (fin : ∀ (h' : Heap) (d : Drawn) (tk : Nat) (acc : Array Value) (c : Nat), acc.toList.Perm (es.toList.map (·.2)) → (∀ b o, s.heap.get? b = some o → h'.get? b = some o) → h'.get? s.heap.objs.size = some { cls := .type "list", dict := none, data := .seq acc c, slots := #[] } →
      R (.ok (.ret (.ref s.heap.objs.size))) { s with heap := h', drawn := d, toks := tk }) : codeAny (model prog w) A (.builtin "proto.collect" ⟨[.ref a], []⟩) R s := by
  have hh1 : A.in1.handled = none := hh
  have bd := fits_of_scanBound D.bound
  have la := Heap.lt_size ho
  refine codeAny_builtin PySem.F.entry_proto_collect ?_
  rw [Around.under_plainId PySem.F.plain_proto_collect _]
  show wpAny _ A.in1 (newList [] >>= fun l => again (.builtin "list.__iadd__" ⟨[l, .ref a], []⟩)) _ _ s
  refine wpAny_bind (wpAny_newObj_type ?_)
  refine wpAny_pure ⟨plainId_quiet PySem.F.plain_list_iadd _, codeAny_builtin PySem.F.entry_list_iadd ?_⟩
  rw [Around.under_plainId PySem.F.plain_list_iadd _]
  show wpAny _ A.in1 (Builtin.List.listExtendWith (.ref s.heap.objs.size) (.ref a) (.ref s.heap.objs.size)) _ _ _
  generalize hL : ({ cls := .type "list", data := .seq ([] : List Value).toArray } : Obj) = L
  have ho1 : (s.heap.push L).get? a = some o := Heap.get?_push_of_some _ ho
  have hz1 : (s.heap.push L).objs.size = s.heap.objs.size + 1 := Heap.size_push _ _
  have hS1 : (s.heap.push L).get? s.heap.objs.size = some L := Heap.get?_push_size _ (by rw [← hL]; rfl)
  unfold Builtin.List.listExtendWith
  refine wpAny_bind (wpAny_typeOf (T := "set") ⟨o, ho1, D.exact.1⟩ ?_)
  have h1 : Builtin.List.listSameRef (.ref s.heap.objs.size) (.ref a) = false := by simp [Builtin.List.listSameRef]; exact Nat.ne_of_gt la
  have h2 : (Value.type "set" == Value.type "list") = false := by decide
  have h3 : (Value.type "set" == Value.type "tuple") = false := by decide
  simp only [h1, h2, h3, Bool.or_false, Bool.false_eq_true, if_false]
  refine wpAny_bind (pyIter_set ho1 D (fun c => ?_) fun l d hl => ?_)
  · have hI : a ≠ (s.heap.push L).objs.size := by rw [hz1]; exact Nat.ne_of_lt (Nat.lt_succ_of_lt la)
    have hSI : s.heap.objs.size ≠ (s.heap.push L).objs.size := by rw [hz1]; exact Nat.ne_of_lt (Nat.lt_succ_self _)
    have hSa : s.heap.objs.size ≠ a := Nat.ne_of_gt la
    obtain ⟨slotAt, its, Wy⟩ : ∃ slotAt its, Way prog w a es ep t o slotAt its := by
      cases hb : w.params.followText "set-order" with
      | true => exact ⟨_, _, way_text D hb⟩
      | false => exact ⟨_, _, way_led D hb (c.elim (fun z => by rw [hb] at z; cases z) id)⟩
    refine wpAny_bind (wpAny_holding (hint_set ⟨o, Heap.get?_push_of_some _ ho1, D.exact.1⟩ ?_))
    have st : SIter ((s.heap.push L).push (iterO a (.int 0 0) es.size ep)) (s.heap.push L).objs.size a (.int (slotAt 0) 0) 0 es.size ep := ⟨iterO a (.int 0 0) es.size ep, Heap.get?_push_size _ rfl, rfl, by rw [Wy.zero]; rfl⟩
    have hS2 : ((s.heap.push L).push (iterO a (.int 0 0) es.size ep)).get? s.heap.objs.size = some { cls := .type "list", data := .seq #[] 0 } := Heap.get?_push_of_some _ (by rw [hS1, ← hL])
    refine room_tail (s := { s with heap := (s.heap.push L).push (iterO a (.int 0 0) es.size ep) }) (walks_way hh1 D Wy hI) bd (by simp only [List.mem_cons, List.not_mem_nil, or_false, not_or]; exact ⟨hSI, hSa⟩) ⟨st, Heap.get?_push_of_some _ ho1⟩ hS2 fun h' tk acc' c' hk hS' hacc => ?_
    refine fin h' s.drawn tk acc' c' ?_ (fun b ob e => hk b ob (Nat.ne_of_lt (Heap.lt_size e)) (by rw [hz1]; exact Nat.ne_of_lt (Nat.lt_succ_of_lt (Heap.lt_size e))) (Heap.get?_push_of_some _ (Heap.get?_push_of_some _ e))) hS'
    rw [items_perm (its := its.toList.map (·.2)) (fun i v h => by rw [List.getElem?_map, Array.getElem?_toList]; rw [Array.getElem?_map] at h; exact h) (by rw [List.length_map, Wy.perm.length_eq, Array.length_toList]) hacc]
    exact Wy.perm.map _
  · have la1 : a < (s.heap.push L).objs.size := by rw [hz1]; exact Nat.lt_succ_of_lt la
    have hI : a ≠ (s.heap.push L).objs.size + 1 := Nat.ne_of_lt (Nat.lt_succ_of_lt la1)
    have hTI : (s.heap.push L).objs.size ≠ (s.heap.push L).objs.size + 1 := Nat.ne_of_lt (Nat.lt_succ_self _)
    have hST : s.heap.objs.size ≠ (s.heap.push L).objs.size := by rw [hz1]; exact Nat.ne_of_lt (Nat.lt_succ_self _)
    have hSI : s.heap.objs.size ≠ (s.heap.push L).objs.size + 1 := by rw [hz1]; exact Nat.ne_of_lt (Nat.lt_succ_of_lt (Nat.lt_succ_self _))
    have hSa : s.heap.objs.size ≠ a := Nat.ne_of_gt la
    have hz2 : ((s.heap.push L).push (seqObj "tuple" (l.map fun (i : Nat) => rawInt i).toArray 0)).objs.size = (s.heap.push L).objs.size + 1 := Heap.size_push _ _
    refine wpAny_bind (wpAny_holding (hint_set ⟨o, Heap.get?_push_of_some _ (Heap.get?_push_of_some _ ho1), D.exact.1⟩ ?_))
    generalize hTu : seqObj "tuple" (l.map fun (i : Nat) => rawInt i).toArray 0 = Tu at *
    have st : SIter (((s.heap.push L).push Tu).push (iterO a (.ref (s.heap.push L).objs.size) es.size ep)) ((s.heap.push L).objs.size + 1) a (.ref (s.heap.push L).objs.size) 0 es.size ep := ⟨iterO a (.ref (s.heap.push L).objs.size) es.size ep, by rw [← hz2]; exact Heap.get?_push_size _ rfl, rfl, rfl⟩
    have hS2 : (((s.heap.push L).push Tu).push (iterO a (.ref (s.heap.push L).objs.size) es.size ep)).get? s.heap.objs.size = some { cls := .type "list", data := .seq #[] 0 } := Heap.get?_push_of_some _ (Heap.get?_push_of_some _ (by rw [hS1, ← hL]))
    refine room_tail (s := { s with heap := ((s.heap.push L).push Tu).push (iterO a (.ref (s.heap.push L).objs.size) es.size ep), drawn := d }) (walks_drawn (l := l) hh1 D hl hI hTI) bd (by simp only [List.mem_cons, List.not_mem_nil, or_false, not_or]; exact ⟨hSI, hSa, hST⟩)
      ⟨⟨st, Heap.get?_push_of_some _ (Heap.get?_push_of_some _ ho1)⟩, by rw [hTu]; exact Heap.get?_push_of_some _ (Heap.get?_push_size _ (by rw [← hTu]; rfl))⟩ hS2 fun h' tk acc' c' hk hS' hacc => ?_
    refine fin h' d tk acc' c' ?_ (fun b ob e => hk b ob (Nat.ne_of_lt (Heap.lt_size e)) (by rw [hz1]; exact Nat.ne_of_lt (Nat.lt_succ_of_lt (Nat.lt_succ_of_lt (Heap.lt_size e)))) (Heap.get?_push_of_some _ (Heap.get?_push_of_some _ (Heap.get?_push_of_some _ e)))) hS'
    rw [items_perm (fun i v h => h) (by rw [List.length_map, hl.length_eq, List.length_range]) hacc]
    exact drawn_perm hl
theorem collect_set {Q : List Value → Shared → Prop} (hh : A.handled = none) (ho : s.heap.get? a = some o) (D : SetD prog w o es ep t ks)
    (hQ : ∀ vs h' d tk, vs.Perm (es.toList.map (·.2)) → (∀ b o, s.heap.get? b = some o → h'.get? b = some o) → s.heap.objs.size < h'.objs.size → Q vs { s with heap := h', drawn := d, toks := tk }) : wpAny (model prog w) A (collect (.ref a)) Q E s := by
  unfold collect
  refine wpAny_bind (wpAny_runValue (collect_code hh ho D fun h' d tk acc c hp hk hS => ?_))
  show wpAny _ A (load s.heap.objs.size >>= _) _ _ _
  refine wpAny_bind (wpAny_load hS ?_)
  exact wpAny_pure (hQ _ h' d tk hp hk (Heap.lt_size hS))
set_option maxHeartbeats 1000000 in
/-- sorted(set of ints) -/
theorem sorted_set {Q : Value → Shared → Prop} (hh : A.handled = none) (hS : SetL prog w a ks s.heap) (h64 : ks.length < 64)
    (h : ∀ (ms : List Int) (out : List Value) (b : Addr) (h' : Heap) (d : Drawn) (tk n : Nat), IntsAre out ms → ms.Perm ks → ms.Pairwise (· ≤ ·) → s.heap.objs.size ≤ b → (∀ b o, s.heap.get? b = some o → h'.get? b = some o) → h'.get? b = some (seqObj "list" out.toArray n) → Q (.ref b) { s with heap := h', drawn := d, toks := tk }) :
    wpAny (model prog w) A (call (.builtin "sorted") [.ref a]) Q E s := by
  obtain ⟨o, es, ep, t, ho, D⟩ := hS
  refine Calls.call_function_entry kind_sorted plain_sorted entry_sorted (args_sorted1 _) ?_
  unfold Builtin.«sorted»
  refine wpAny_bind (m := checkCount "sorted" 1 1 _) (wpAny_pure ?_)
  refine wpAny_bind (collect_set hh ho D fun vs h' d tk hp hk hz => ?_)
  have hI : IntsAre vs (vs.map keyOf) := by
    have g : ∀ us : List Value, (∀ v ∈ us, ∃ i t, v = .int i t) → IntsAre us (us.map keyOf) := fun us => by
      induction us with
      | nil => exact fun _ => .nil
      | cons v r ih =>
        intro hu
        obtain ⟨i, t, rfl⟩ := hu v List.mem_cons_self
        exact .cons i t (ih fun u hm => hu u (List.mem_cons_of_mem _ hm))
    refine g vs fun v hv => ?_
    obtain ⟨e, he, rfl⟩ := List.mem_map.mp (hp.mem_iff.mp hv)
    obtain ⟨⟨k, hk', _⟩, _⟩ := D.els e he
    obtain ⟨t, e'⟩ := Value.isInt_shape hk'
    exact ⟨k, t, e'⟩
  have hks : (vs.map keyOf).Perm ks := by
    refine (hp.map _).trans ?_
    rw [List.map_map]
    exact D.keys
  have len : vs.length < 64 := by rw [← List.length_map (f := keyOf), hks.length_eq]; exact h64
  refine wpAny_bind (wpAny_newList ?_ (by rw [sizeLine_eq]; omega))
  have hoL : (h'.push (seqObj "list" vs.toArray 0)).get? h'.objs.size = some (seqObj "list" vs.toArray 0) := Heap.get?_push_size _ rfl
  refine wpAny_bind (wpAny_holding (wpAny_call_entry slot_list_sort ⟨_, hoL, rfl⟩ entry_list_sort (list_sort_tree hoL hI len fun out ns' a1 a2 a3 => ⟨_, rfl, ?_⟩) (args_list_sort _)))
  obtain ⟨n1, e1⟩ : ∃ n1, ((((h'.push (seqObj "list" vs.toArray 0)).update h'.objs.size (Obj.mapSeq fun _ => #[])).push (seqObj "tuple" vs.toArray 0)).push (seqObj "list" #[] 0)).get? h'.objs.size = some (seqObj "list" #[] n1) := ⟨_, Heap.get?_push_of_some _ (Heap.get?_push_of_some _ (get?_update_seq hoL (fun _ => #[])))⟩
  refine wpAny_pure ⟨_, rfl, h ns' out.toList h'.objs.size _ d tk _ a1 (a2.trans hks) a3 (Nat.le_of_lt hz) (fun b ob e => ?_) (by rw [Array.toArray_toList]; exact get?_update_seq e1 (fun _ => out))⟩
  have e' := hk b ob e
  have ne : h'.objs.size ≠ b := Nat.ne_of_gt (Heap.lt_size e')
  exact (Heap.get?_update_other _ _ ne).trans (Heap.get?_push_of_some _ (Heap.get?_push_of_some _ ((Heap.get?_update_other _ _ ne).trans (Heap.get?_push_of_some _ e'))))
end
end L2

/-! SETS, seven: the rules over the layer. -/
namespace L2
open PySem PySem.Spec PyProof.Rows
section
variable {X : Cx} {pins : List (Addr × Obj)} {σ : St} {H : Hp} {s : Shared}
theorem Inv.draw {d : Drawn} (I : Inv X pins σ H s) : Inv X pins σ H { s with drawn := d } :=
  ⟨I.ok, I.os, I.bare, I.base, I.loc, I.cell, I.free, I.freeC, I.pin, I.hok, I.len⟩
end
/-- a set of the ints ks -/
def SetO (P : Program) (w : World) (a : Addr) (ks : List Int) : HO := .ext (SetL P w a ks)
section
variable {X : Cx}
def rSet (P : Program) (w : World) (K : PySem.W.Frag) : List V → Hp → VK → Prop := fun xs H Q => ∃ (p : Addr) (ns : List Int), xs = [.ref p] ∧ SqL K H p (ns.map V.int) ∧ ns.length + 1 < 4096 ∧ ∀ a : Addr, H a = none → Q (.ref a) (upd H a (SetO P w a (unlike ns)))
theorem call_set (hc : X.calm = true) : CallR X (.type "set") (rSet X.prog X.w X.K) := by
  intro pins s σ H xs us Q I r h
  obtain ⟨p, ns, rfl, hS, hl, q⟩ := h
  obtain ⟨u, rfl, ru⟩ := r.one
  obtain rfl : u = Value.ref p := ru
  obtain ⟨its, rv, pl, hz⟩ := I.list hS
  have hI := ints_of_vals rv
  have len := hI.length
  refine call_set_L (I.ok.hd hc) pl.isList (by simpa using hI) (by simp; unfold scanBound; omega) fun h' tk hS' hk => ?_
  have hf : H s.heap.objs.size = none := I.hok.fresh (Nat.le_refl _)
  have hex : ∃ o, h'.get? s.heap.objs.size = some o := by
    obtain ⟨o, _, _, _, ho, _⟩ := hS'
    exact ⟨o, ho⟩
  have new : ObjOk X.prog X.w (upd H s.heap.objs.size (SetO X.prog X.w s.heap.objs.size (unlike ns))) h' s.heap.objs.size (SetO X.prog X.w s.heap.objs.size (unlike ns)) := ⟨hS', hex, fun h1 h2 x k => SetD.of_same x k⟩
  exact ⟨.ref s.heap.objs.size, _, I.laid (t' := tk) hk (Nat.le_refl _) new, rfl, q _ hf⟩
def rSortedS (P : Program) (w : World) : List V → Hp → VK → Prop := fun xs H Q => ∃ (a : Addr) (ks : List Int), xs = [.ref a] ∧ H a = some (SetO P w a ks) ∧ ks.length < 64 ∧ ∀ (l : Addr) (ms : List Int), H l = none → ms.Perm ks → ms.Pairwise (· ≤ ·) → Q (.ref l) (upd H l (.lst (ms.map V.int)))
theorem call_sortedS (hc : X.calm = true) : CallR X (.builtin "sorted") (rSortedS X.prog X.w) := by
  intro pins s σ H xs us Q I r h
  obtain ⟨a, ks, rfl, hS, hl, q⟩ := h
  obtain ⟨u, rfl, ru⟩ := r.one
  obtain rfl : u = Value.ref a := ru
  have hS' : SetL X.prog X.w a ks s.heap := (show ObjOk X.prog X.w H s.heap a (.ext (SetL X.prog X.w a ks)) from I.hok a _ hS).1
  refine sorted_set (I.ok.hd hc) hS' hl fun ms out b h' d tk n a1 a2 a3 hb hk he => ?_
  have hf : H b = none := I.hok.fresh hb
  have e2 := a2.length_eq
  have new : ObjOk X.prog X.w (upd H b (.lst (ms.map V.int))) h' b (.lst (ms.map V.int)) := ⟨by rw [List.length_map, e2]; have : sizeLine = 16777216 := sizeLine_eq; omega, out, n, vals_of_ints a1, he⟩
  exact ⟨.ref b, _, (I.draw (d := d)).laid (t' := tk) hk hb new, rfl, q _ ms hf a2 a3⟩
end
end L2

/-! TEXTS over the layer: f-strings, join, split, startswith, slices, a walk over a text, all(..) of bools -/
namespace L2
open PySem PySem.Spec PyProof.Rows
section
variable {X : Cx}
/-- f'..{e}' with one written part ahead and an int behind it -/
def tFs (tc te : TE) : TE := fun σ H Q => tc σ H fun x H1 => ∃ a : Str, x = .str a ∧ a.length ≤ sizeLine ∧ te σ H1 fun y H2 => ∃ n : Int, y = .int n ∧ n.natAbs.log2 < 1920 ∧ (a ++ Str.ofString (toString n)).length ≤ sizeLine ∧ Q (.str (a ++ Str.ofString (toString n))) H2
theorem pe_fs {c e : Expr} {tc te : TE} {p pos : Pos} (hc : PE X c tc) (he : PE X e te) : PE X (.JoinedStr [c, .FormattedValue e (-1) none p] pos) (tFs tc te) := by
  intro pins s σ H Q I h
  refine JoinedStr_many (joinParts_cons (thn (hc pins s σ H _ I h) fun v s1 ⟨x, H1, I1, r1, q1⟩ => ?_))
  obtain ⟨a, rfl, za, q⟩ := q1
  obtain ⟨t, rfl⟩ := r1
  have ea : Str.empty ++ a = a := Str.empty_append a
  refine ⟨by rw [ea]; exact za, ?_⟩
  rw [ea]
  refine joinParts_cons (FormattedValue_plain (thn (he pins s1 σ H1 _ I1 q) fun u s2 ⟨y, H2, I2, r2, q2⟩ => ?_))
  obtain ⟨n, rfl, hn, hz, q⟩ := q2
  obtain ⟨t', rfl⟩ := r2
  exact formatField_int_small hn ⟨hz, joinParts_nil ⟨.str _, H2, I2.tok _, ⟨_, rfl⟩, q⟩ hz⟩
theorem strs_of_vals : ∀ {ys : List Str} {us : List Value}, Vals (ys.map V.str) us → StrsAre us ys
  | [], _, .nil => .nil
  | y :: r, _, .cons q t => by
    obtain ⟨k, rfl⟩ := q
    exact .cons y k (strs_of_vals t)
theorem vals_of_strs : ∀ (l : List (Str × Tok)), Vals ((l.map (·.1)).map V.str) (strValues l)
  | [] => .nil
  | (y, k) :: r => .cons ⟨k, rfl⟩ (vals_of_strs r)
theorem bools_of_vals : ∀ {bs : List Bool} {us : List Value}, Vals (bs.map V.bl) us → LSm.BoolsAre us bs
  | [], _, .nil => .nil
  | b :: r, _, .cons q t => by
    cases q
    exact .cons b (bools_of_vals t)
/-- sep.join(l) -/
def rJoin (K : PySem.W.Frag) : V → List V → Hp → VK → Prop := fun x vs H Q => ∃ (sep : Str) (l : Addr) (ys : List Str), x = .str sep ∧ vs = [.ref l] ∧ SqL K H l (ys.map V.str) ∧ (ys.map (·.length)).sum + ys.length * sep.length ≤ 16777216 ∧ Q (.str (Str.join sep ys)) H
theorem mt_join : MtM X "str.join" (rJoin X.K) := by
  intro pins s σ H x vs v us Q I rx rv h
  obtain ⟨sep, l, ys, rfl, rfl, hl, hz, q⟩ := h
  obtain ⟨t, rfl⟩ := rx
  obtain ⟨u, rfl, ru⟩ := rv.one
  cases ru
  obtain ⟨its, r, pl, _⟩ := I.list hl
  refine join_list pl.isList (by simpa using strs_of_vals r) hz fun t' k => ?_
  refine ⟨.str _, H, I.tok _, ⟨t', rfl⟩, ?_⟩
  show Q (.str (Builtin.Str.glued sep ys)) H
  rw [StrLaws.glued_eq_join]
  exact q
/-- a.split(b) -/
def rSplit : V → List V → Hp → VK → Prop := fun x vs H Q => ∃ (a b : Str), x = .str a ∧ vs = [.str b] ∧ (b.length == 0) = false ∧ a.length + 2 ≤ sizeLine ∧ ∀ l, H l = none → Q (.ref l) (upd H l (.lst ((Txt.split a b).map V.str)))
theorem split_len (a b : Str) : (Txt.split a b).length ≤ a.length + 2 := by
  unfold Txt.split
  split
  · simp
  · split
    · simp
    · unfold Builtin.Str.partsBetween
      have := StrLaws.occ_length_le_len a b 0 a.length (a.length + 1)
      simp only [List.length_map, List.length_zip, List.length_cons, List.length_append, List.length_nil]
      omega
theorem mt_split : MtM X "str.split" rSplit := by
  intro pins s σ H x vs v us Q I rx rv h
  obtain ⟨a, b, rfl, rfl, hb, hz, q⟩ := h
  obtain ⟨t, rfl⟩ := rx
  obtain ⟨u, rfl, k, rfl⟩ := rv.one
  have fin : ∀ (l : List (Str × Tok)) (tk : Nat), l.map (·.1) = Txt.split a b → EP X pins σ Q (.ref s.heap.objs.size) { s with heap := s.heap.push { cls := .type "list", data := .seq (strValues l).toArray }, toks := tk } := fun l tk e => by
    have hl : ((Txt.split a b).map V.str).length ≤ sizeLine := by
      rw [List.length_map]
      have := split_len a b
      omega
    refine ⟨.ref _, _, I.lnew (ys := (Txt.split a b).map V.str) ?_ hl, rfl, q _ I.fresh⟩
    rw [← e]
    exact vals_of_strs l
  have one : ∀ w, Txt.split a b = w → w = [a] → EP X pins σ Q (.ref s.heap.objs.size) { s with heap := s.heap.push { cls := .type "list", data := .seq (strValues [(a, t)]).toArray } } := fun w e e' => fin [(a, t)] s.toks (by rw [e, e']; rfl)
  cases h1 : (decide (a.length < b.length) || decide (Builtin.Str.strKind a < Builtin.Str.strKind b)) with
  | true =>
    have e : Txt.split a b = [a] := if_pos h1
    exact call_meets F.slot_str_split (typeIs_str _ _ _) F.entry_str_split (F.args_str_split_2 _ _) (meets_str_split_cannot_occur a b t k h1) (one _ e rfl)
  | false =>
    cases h2 : (Builtin.Str.occurrences a b 0 a.length (a.length + 1)).isEmpty with
    | true =>
      have e : Txt.split a b = [a] := (if_neg (ne_true_of_eq_false h1)).trans (if_pos h2)
      exact call_meets F.slot_str_split (typeIs_str _ _ _) F.entry_str_split (F.args_str_split_2 _ _) (meets_str_split_not_found a b t k h1 hb h2) (one _ e rfl)
    | false =>
      have e : Txt.split a b = Builtin.Str.partsBetween a (Builtin.Str.occurrences a b 0 a.length (a.length + 1)) b.length := (if_neg (ne_true_of_eq_false h1)).trans (if_neg (ne_true_of_eq_false h2))
      have hl2 : (Builtin.Str.partsBetween a (Builtin.Str.occurrences a b 0 a.length (a.length + 1)) b.length).length ≤ sizeLine := by
        rw [← e]
        have := split_len a b
        omega
      refine call_meets F.slot_str_split (typeIs_str _ _ _) F.entry_str_split (F.args_str_split_2 _ _) (meets_str_split_sep a b t k h1 hb h2 (by omega) hl2) ?_
      have w := fin (numbered s.toks (Txt.split a b)) (s.toks + (Txt.split a b).length) (numbered_texts _ _)
      rw [← strsFrom_eq, e] at w
      exact w
/-- a.startswith(b) -/
def rStarts : V → List V → Hp → VK → Prop := fun x vs H Q => ∃ (a b : Str), x = .str a ∧ vs = [.str b] ∧ Q (.bl (Txt.startswith a b)) H
theorem mt_starts : MtM X "str.startswith" rStarts := by
  intro pins s σ H x vs v us Q I rx rv h
  obtain ⟨a, b, rfl, rfl, q⟩ := h
  obtain ⟨t, rfl⟩ := rx
  obtain ⟨u, rfl, k, rfl⟩ := rv.one
  exact call_gives F.slot_str_startswith (typeIs_str _ _ _) F.entry_str_startswith (F.args_str_startswith_2 _ _) (PySem.gives_str_startswith a b t k) ⟨.bl _, H, I, rfl, q⟩
/-- a text's signs one by one -/
def Its (x : Str) : It := ⟨fun i _ => i < x.cps.size, fun i H v H' => H' = H ∧ ∃ c, x.cps[i]? = some c ∧ v = .str ⟨#[c]⟩, fun i _ => x.cps.size ≤ i⟩
theorem turn_str {P : Program} {w : World} {K : PySem.W.Frag} {tg : Expr} (it : Addr) (x : Str) (t : Tok) (ty : String) (hty : ty = "str_ascii_iterator" ∨ ty = "str_iterator") : Turn P w K tg (Its x) [it] it (fun i h => h.IsStrIter it ty x t i) where
  mem := by simp
  obj := fun i h st b hb => by
    obtain rfl : b = it := by simpa using hb
    obtain ⟨o, e, c, d⟩ := st
    exact ⟨o, e, fun v z => by rw [d] at z; cases z⟩
  keep := fun i h h' st k => by
    obtain ⟨o, e, r⟩ := st
    exact ⟨o, k it (by simp) o e, r⟩
  item := by
    intro X hP hw hK hc i pins s σ H E I hf st hg
    subst hP hw hK
    obtain ⟨f0, f1, f2, f3, f4, f5⟩ := hf it (by simp)
    have hx : x.cps[i]? = some x.cps[i] := Array.getElem?_eq_getElem hg
    have fin : ∀ h' : Heap, h'.IsStrIter it ty x t (i + 1) → Heap.SameBut it s.heap h' → ∃ u, some (Value.str ⟨#[x.cps[i]]⟩ s.toks) = some u ∧
        wpAny (model X.prog X.w) X.A (letOwnedTupleGo tg (.ref it) u) (fun _ s2 => ∃ v H', Inv X pins σ H' s2 ∧ RelV v u ∧ (Its x).yld i H v H' ∧ s2.heap.IsStrIter it ty x t (i + 1) ∧ ∀ b ∈ [it], H' b = none) E { s with heap := h', toks := s.toks + 1 } := fun h' st' sb => by
      have I1 : Inv X pins σ H { s with heap := h', toks := s.toks + 1 } := I.turned (fun b o hb e => (sb.2 b hb).trans e) f0 f1 f3 f4 f5
      obtain ⟨o, e, c, d⟩ := id st'
      refine ⟨_, rfl, go_of (s := { s with heap := h', toks := s.toks + 1 }) e c d (by rcases hty with rfl | rfl <;> decide) ⟨.str ⟨#[x.cps[i]]⟩, H, I1, ⟨_, rfl⟩, ⟨rfl, _, hx, rfl⟩, st', fun b hb => (hf b hb).1⟩⟩
    rcases hty with rfl | rfl
    · exact wpAny_pyNext_ascii_item st hx fin
    · exact wpAny_pyNext_wide_item st hx fin
  done := by
    intro X hP hw hK hc i pins s σ H E I hf st hg
    subst hP hw hK
    obtain ⟨f0, f1, f2, f3, f4, f5⟩ := hf it (by simp)
    have hx : x.cps[i]? = none := Array.getElem?_eq_none hg
    rcases hty with rfl | rfl
    · exact wpAny_pyNext_ascii_end (I.ok.hd hc) st hx fun h' eb => ⟨rfl, I.turned (t' := s.toks) (fun b o hb e => eb b o hb e) f0 f1 f3 f4 f5⟩
    · exact wpAny_pyNext_wide_end (I.ok.hd hc) st hx fun h' eb => ⟨rfl, I.turned (t' := s.toks) (fun b o hb e => eb b o hb e) f0 f1 f3 f4 f5⟩
  self := fun _ _ _ _ _ st h => by
    rcases hty with rfl | rfl
    · exact wpAny_pyIter_striter_ascii st h
    · exact wpAny_pyIter_striter_wide st h
def iStr (tl : TE) : TI := fun σ H R => tl σ H fun x H1 => ∃ a, x = .str a ∧ R (Its a) H1
theorem pi_str {tg l : Expr} {tl : TE} (hl : PE X l tl) : PI X tg l (iStr tl) := by
  intro pins s σ H R I h
  refine thn (hl pins s σ H _ I h) fun v s1 ⟨x, H1, I1, r1, q1⟩ => ?_
  obtain ⟨a, rfl, q⟩ := q1
  obtain ⟨t, rfl⟩ := r1
  have fin : ∀ ty, (ty = "str_ascii_iterator" ∨ ty = "str_iterator") → PIE X pins σ tg R (.ref s1.heap.objs.size) { s1 with heap := s1.heap.push { cls := .type ty, data := .fields #[.str a t, .int 0 0] } } := fun ty hty => by
    refine ⟨s1.heap.objs.size, [s1.heap.objs.size], _, _, H1, rfl, I1.kept (t' := s1.toks) fun b o e => Heap.get?_push_of_some _ e, turn_str _ a t ty hty, ⟨_, Heap.get?_push_size _ rfl, rfl, rfl⟩, fun b hb => ?_, q⟩
    obtain rfl : b = s1.heap.objs.size := by simpa using hb
    exact I1.fpOk (Nat.le_refl _) (I1.hok.fresh (Nat.le_refl _))
  cases ha : a.cps.all (· < 128)
  · exact wpAny_pyIter_wide ha (fin _ (.inr rfl))
  · exact wpAny_pyIter_ascii ha (fin _ (.inl rfl))
/-- a[lo:hi], a text -/
def rSlS : V → Option Int → Option Int → Hp → VK → Prop := fun x lo hi H Q => ∃ z : Str, x = .str z ∧ z.length ≤ sizeLine ∧ Q (.str (Txt.slice z lo hi)) H
theorem part_of {v : Value} {o : Option Int} (p : IsPart v o) : ∃ l : Option (Int × Tok), v = partValue l ∧ l.map (·.1) = o := by
  cases p with
  | none => exact ⟨none, rfl, rfl⟩
  | int i t => exact ⟨some (i, t), rfl, rfl⟩
theorem sl_str : SlR X rSlS := by
  intro pins s σ H x v vl vu lo hi sl Q I rx hs pl pu h
  obtain ⟨z, rfl, hz, q⟩ := h
  obtain ⟨t, rfl⟩ := rx
  obtain ⟨l, rfl, rfl⟩ := part_of pl
  obtain ⟨u, rfl, rfl⟩ := part_of pu
  refine ⟨"str", _, slot_str_getitem.lookup, typeIs_str _ _ _, wpAny_getItem_str_slice (l := l) (u := u) (st := none) hs rfl ?_⟩
  exact post_val_or_str ⟨Nat.le_trans (Txt.slice_le z _ _) hz, fun t' k => ⟨.str _, H, I.tok _, ⟨_, rfl⟩, q⟩⟩
theorem cut_from2 (z : Str) : Txt.slice z (some 2) none = ⟨(z.cps.toList.drop 2).toArray⟩ := by
  have hl : z.cps.toList.length = z.length := by simp [Str.length]
  by_cases h : 2 ≤ z.length
  · refine (StrLaws.sliceText_from (x := z) (i := 2) ⟨by decide, by omega⟩).trans ?_
    have e : List.take ((z.cps.toList.length : Int) - 2).toNat (z.cps.toList.drop (2 : Int).toNat) = z.cps.toList.drop 2 := List.take_of_length_le (by rw [List.length_drop]; omega)
    rw [e]
  · have e : z.cps.toList.drop 2 = [] := List.drop_eq_nil_of_le (by omega)
    rw [e]
    have c : z.length = 0 ∨ z.length = 1 := by omega
    unfold Txt.slice
    rcases c with c | c
    · rw [c, if_pos (by decide)]
      apply Str.ext'
      exact Array.eq_empty_of_size_eq_zero c
    · rw [c, if_neg (by decide)]
      rfl
theorem cut_to2 (z : Str) : Txt.slice z none (some 2) = ⟨(z.cps.toList.take 2).toArray⟩ := by
  have hl : z.cps.toList.length = z.length := by simp [Str.length]
  by_cases h : 2 ≤ z.length
  · exact (StrLaws.sliceText_to (x := z) (j := 2) ⟨by decide, by omega⟩)
  · have e : z.cps.toList.take 2 = z.cps.toList := List.take_of_length_le (by omega)
    rw [e]
    have c : z.length = 0 ∨ z.length = 1 := by omega
    have e2 : z = ⟨z.cps.toList.toArray⟩ := rfl
    unfold Txt.slice
    rcases c with c | c
    · rw [c, if_pos (by decide)]
    · rw [c, if_pos (by decide)]
/-- all(l), l a list of bools -/
theorem call_allL (hc : X.calm = true) : CallR X (.builtin "all") (fun xs H Q => ∃ (p : Addr) (bs : List Bool), xs = [.ref p] ∧ SqL X.K H p (bs.map V.bl) ∧ Q (.bl (bs.all id)) H) := by
  intro pins s σ H xs us Q I r h
  obtain ⟨p, bs, rfl, hS, q⟩ := h
  obtain ⟨u, rfl, ru⟩ := r.one
  obtain rfl : u = Value.ref p := ru
  obtain ⟨its, rv, pl, hz⟩ := I.list hS
  obtain ⟨m, F⟩ := I.fr
  exact LSm.all_bools F news_all (I.ok.hd hc) pl.isList (bools_of_vals rv) fun h' tk F' N' => ⟨.bl _, H, I.ledger F F' N', rfl, q⟩
end
end L2

/-! TEXTS: the parts between the signs that part them; the figures of a number -/
namespace Us
open PySem PySem.Builtin PySem.Builtin.Str
abbrev SEP : Str := Str.ofString " + "
theorem sep_list : SEP.cps.toList = [32, 43, 32] := by decide +kernel
theorem sep_len : SEP.length = 3 := by decide +kernel
def hit (x y : Str) (hi i : Nat) : Bool := decide (i + y.length ≤ hi) && subAt x y i
theorem occ_all (x y : Str) (hi limit : Nat) : ∀ (l : List Nat) (st : Array Nat × Nat), l.Pairwise (· < ·) → (∀ i ∈ l, hit x y hi i = true → st.2 ≤ i) → (∀ i ∈ l, ∀ j ∈ l, i < j → hit x y hi i = true → hit x y hi j = true → i + y.length ≤ j) →
    st.1.size + l.length ≤ limit → (forIn l st (StrLaws.occBody x y hi limit)).run.fst.toList = st.1.toList ++ l.filter (hit x y hi)
  | [], st, _, _, _, _ => by simp
  | a :: l, st, hp, hf, hs, hl => by
    rw [List.forIn_cons]
    unfold StrLaws.occBody
    have hl' : st.1.size + (l.length + 1) ≤ limit := hl
    split
    · rename_i hc
      have hit_a : hit x y hi a = true := by
        unfold hit
        rw [decide_eq_true hc.1.2, hc.2]
        rfl
      refine (occ_all x y hi limit l (st.fst.push a, a + y.length) (List.pairwise_cons.mp hp).2 (fun i hi' h => hs a (List.mem_cons_self ..) i (List.mem_cons_of_mem _ hi') ((List.pairwise_cons.mp hp).1 i hi') hit_a h) (fun i h1 j h2 => hs i (List.mem_cons_of_mem _ h1) j (List.mem_cons_of_mem _ h2)) (by rw [Array.size_push]; omega)).trans ?_
      rw [List.filter_cons, if_pos hit_a, Array.toList_push, List.append_assoc]
      rfl
    · rename_i hc
      have nhit : ¬ hit x y hi a = true := fun h => by
        have h2 := hf a (List.mem_cons_self ..) h
        unfold hit at h
        rw [Bool.and_eq_true, decide_eq_true_eq] at h
        exact hc ⟨⟨⟨by omega, h2⟩, h.1⟩, h.2⟩
      refine (occ_all x y hi limit l st (List.pairwise_cons.mp hp).2 (fun i hi' => hf i (List.mem_cons_of_mem _ hi')) (fun i h1 j h2 => hs i (List.mem_cons_of_mem _ h1) j (List.mem_cons_of_mem _ h2)) (by omega)).trans ?_
      rw [List.filter_cons, if_neg nhit]
def joinL : List (List Nat) → List Nat
  | [] => []
  | [p] => p
  | p :: q :: r => p ++ [32, 43, 32] ++ joinL (q :: r)
def cutsL : Nat → List (List Nat) → List Nat
  | _, [] => []
  | _, [_] => []
  | a, p :: q :: r => (a + p.length) :: cutsL (a + p.length + 3) (q :: r)
def Plain (p : List Nat) : Prop := 32 ∉ p ∧ 43 ∉ p
theorem hit_iff {x : Str} {i : Nat} : hit x SEP x.length i = true ↔ (x.cps.toList.drop i).take 3 = [32, 43, 32] := by
  unfold hit
  rw [StrLaws.subAt_eq, sep_list, sep_len, Bool.and_eq_true, decide_eq_true_eq, beq_iff_eq]
  refine ⟨fun h => h.2, fun h => ⟨?_, h⟩⟩
  have e := congrArg List.length h
  rw [List.length_take, List.length_drop] at e
  have hl : x.cps.toList.length = x.length := by simp [Str.length]
  have : ([32, 43, 32] : List Nat).length = 3 := rfl
  omega
theorem joinL_head : ∀ (ps : List (List Nat)), (∀ p ∈ ps, Plain p) → ∀ c r, joinL ps = c :: r → c ≠ 43
  | [], _, c, r, h => nomatch h
  | [p], hp, c, r, h => fun e => (hp p (List.mem_cons_self ..)).2 (by rw [show p = c :: r from h, e]; exact List.mem_cons_self ..)
  | p :: q :: ps, hp, c, r, h => fun e => by
    cases p with
    | nil =>
      have h' : 32 :: _ = c :: r := h
      injection h' with h1 h2
      omega
    | cons d p =>
      have h' : d :: _ = c :: r := h
      injection h' with h1 h2
      exact (hp (d :: p) (List.mem_cons_self ..)).2 (by rw [h1, e]; exact List.mem_cons_self ..)
theorem drop_pre (pre l : List Nat) (k : Nat) : (pre ++ l).drop (pre.length + k) = l.drop k := by
  rw [List.drop_append, List.drop_eq_nil_of_le (by omega), List.nil_append, show pre.length + k - pre.length = k by omega]
theorem no_hits {x : Str} {pre p rest : List Nat} (hx : x.cps.toList = pre ++ (p ++ rest)) (hp : Plain p) : (List.range' pre.length p.length).filter (hit x SEP x.length) = [] := by
  rw [List.filter_eq_nil_iff]
  intro i hi h
  rw [hit_iff, hx] at h
  have hr := List.mem_range'_1.mp hi
  obtain ⟨k, rfl⟩ := Nat.exists_eq_add_of_le hr.1
  have hk : k < p.length := by omega
  rw [drop_pre, List.drop_append_of_le_length (Nat.le_of_lt hk), List.drop_eq_getElem_cons hk] at h
  have h' : p[k] :: _ = 32 :: _ := h
  injection h' with h1 h2
  exact hp.1 (by rw [← h1]; exact List.getElem_mem hk)
theorem hits_are {x : Str} : ∀ (ps : List (List Nat)) (pre : List Nat), (∀ p ∈ ps, Plain p) → x.cps.toList = pre ++ joinL ps → (List.range' pre.length ((joinL ps).length + 1)).filter (hit x SEP x.length) = cutsL pre.length ps
  | [], pre, _, hx => by
    have hx' : x.cps.toList = pre ++ [] := hx
    rw [List.filter_eq_nil_iff.mpr]
    · rfl
    · intro i hi h
      have hr := List.mem_range'_1.mp hi
      rw [hit_iff, hx', List.append_nil, List.drop_eq_nil_of_le hr.1] at h
      exact absurd h (by simp)
  | [p], pre, hp, hx => by
    have hx' : x.cps.toList = pre ++ (p ++ []) := by rw [List.append_nil]; exact hx
    have e := no_hits hx' (hp p (List.mem_cons_self ..))
    show (List.range' pre.length (p.length + 1)).filter (hit x SEP x.length) = []
    rw [List.range'_1_concat, List.filter_append, e, List.nil_append, List.filter_eq_nil_iff]
    intro i hi h
    rw [List.mem_singleton.mp hi, hit_iff, hx', drop_pre, List.append_nil, List.drop_length] at h
    exact absurd h (by simp)
  | p :: q :: r, pre, hp, hx => by
    have hx1 : x.cps.toList = pre ++ (p ++ ([32, 43, 32] ++ joinL (q :: r))) := by rw [hx]; show pre ++ (p ++ [32, 43, 32] ++ joinL (q :: r)) = _; rw [List.append_assoc]
    have hx2 : x.cps.toList = (pre ++ p ++ [32, 43, 32]) ++ joinL (q :: r) := by rw [hx1]; simp only [List.append_assoc]
    have ih := hits_are (x := x) (q :: r) (pre ++ p ++ [32, 43, 32]) (fun z hz => hp z (List.mem_cons_of_mem _ hz)) hx2
    have hl3 : (pre ++ p ++ [32, 43, 32]).length = pre.length + p.length + 3 := by rw [List.length_append, List.length_append]; rfl
    rw [hl3] at ih
    have hlen : (joinL (p :: q :: r)).length + 1 = p.length + (1 + (1 + (1 + ((joinL (q :: r)).length + 1)))) := by
      show (p ++ [32, 43, 32] ++ joinL (q :: r)).length + 1 = _
      rw [List.length_append, List.length_append]
      show p.length + 3 + _ + 1 = _
      omega
    have at_ : ∀ k, (x.cps.toList.drop (pre.length + p.length + k)) = ([32, 43, 32] ++ joinL (q :: r)).drop k := fun k => by
      rw [hx1, Nat.add_assoc, drop_pre, drop_pre]
    have h0 : hit x SEP x.length (pre.length + p.length) = true := by
      rw [hit_iff]
      have e := at_ 0
      rw [Nat.add_zero] at e
      rw [e]
      rfl
    have h1 : ¬ hit x SEP x.length (pre.length + p.length + 1) = true := fun h => by
      rw [hit_iff, at_ 1] at h
      have h' : 43 :: _ = 32 :: _ := h
      injection h' with z _
      exact absurd z (by decide)
    have h2 : ¬ hit x SEP x.length (pre.length + p.length + 1 + 1) = true := fun h => by
      rw [hit_iff, show pre.length + p.length + 1 + 1 = pre.length + p.length + 2 by omega, at_ 2] at h
      cases hj : joinL (q :: r) with
      | nil =>
        rw [hj] at h
        exact absurd h (by decide)
      | cons c t =>
        rw [hj] at h
        have h' : 32 :: (c :: t).take 2 = 32 :: [43, 32] := h
        injection h' with _ z
        have z' : c :: _ = 43 :: [32] := z
        injection z' with z1 _
        exact joinL_head (q :: r) (fun z hz => hp z (List.mem_cons_of_mem _ hz)) c t hj z1
    rw [hlen, ← List.range'_append_1, List.filter_append, no_hits hx1 (hp p (List.mem_cons_self ..)), List.nil_append, Nat.add_comm 1, List.range'_succ, List.filter_cons, if_pos h0, Nat.add_comm 1, List.range'_succ, List.filter_cons, if_neg h1, Nat.add_comm 1, List.range'_succ, List.filter_cons, if_neg h2]
    show _ :: _ = (pre.length + p.length) :: cutsL (pre.length + p.length + 3) (q :: r)
    rw [← ih]
theorem cuts_ge : ∀ (ps : List (List Nat)) (a : Nat), ∀ i ∈ cutsL a ps, a ≤ i
  | [], _, _, h => nomatch h
  | [_], _, _, h => nomatch h
  | p :: q :: r, a, i, h => by
    rcases List.mem_cons.mp h with e | e
    · omega
    · have := cuts_ge (q :: r) _ i e
      omega
theorem cuts_apart : ∀ (ps : List (List Nat)) (a : Nat), (cutsL a ps).Pairwise fun i j => i + 3 ≤ j
  | [], _ => .nil
  | [_], _ => .nil
  | p :: q :: r, a => List.pairwise_cons.mpr ⟨fun j hj => cuts_ge (q :: r) _ j hj, cuts_apart (q :: r) _⟩
theorem parts_are {x : Str} : ∀ (ps : List (List Nat)) (pre : List Nat), ps ≠ [] → x.cps.toList = pre ++ joinL ps → (StrLaws.partsFrom x 3 pre.length (cutsL pre.length ps)).map (fun s => s.cps.toList) = ps
  | [], _, h, _ => absurd rfl h
  | [p], pre, _, hx => by
    have hx' : x.cps.toList = pre ++ p := hx
    have hl : x.cps.toList.length = x.length := by simp [Str.length]
    show [(strSub x pre.length x.length).cps.toList] = [p]
    have e := drop_pre pre p 0
    rw [Nat.add_zero] at e
    rw [StrLaws.strSub_toList, hx', e, List.drop_zero, List.take_of_length_le]
    rw [← hl, hx', List.length_append]
    omega
  | p :: q :: r, pre, _, hx => by
    have hx1 : x.cps.toList = pre ++ (p ++ ([32, 43, 32] ++ joinL (q :: r))) := by rw [hx]; show pre ++ (p ++ [32, 43, 32] ++ joinL (q :: r)) = _; rw [List.append_assoc]
    have hx2 : x.cps.toList = (pre ++ p ++ [32, 43, 32]) ++ joinL (q :: r) := by rw [hx1]; simp only [List.append_assoc]
    have ih := parts_are (x := x) (q :: r) (pre ++ p ++ [32, 43, 32]) (fun z => nomatch z) hx2
    have hl3 : (pre ++ p ++ [32, 43, 32]).length = pre.length + p.length + 3 := by rw [List.length_append, List.length_append]; rfl
    rw [hl3] at ih
    show (strSub x pre.length (pre.length + p.length)).cps.toList :: _ = _
    rw [ih, StrLaws.strSub_toList, hx1]
    have e := drop_pre pre (p ++ ([32, 43, 32] ++ joinL (q :: r))) 0
    rw [Nat.add_zero] at e
    rw [e, List.drop_zero, show pre.length + p.length - pre.length = p.length by omega, List.take_left]
theorem str_back {a b : Str} (h : a.cps.toList = b.cps.toList) : a = b := Str.ext' (Array.toList_inj.mp h)
theorem strs_back : ∀ {as bs : List Str}, as.map (fun s => s.cps.toList) = bs.map (fun s => s.cps.toList) → as = bs
  | [], [], _ => rfl
  | [], _ :: _, h => nomatch h
  | _ :: _, [], h => nomatch h
  | a :: r, b :: t, h => by
    injection h with h1 h2
    rw [str_back h1, strs_back h2]
theorem join_list : ∀ ys : List Str, (Str.join SEP ys).cps.toList = joinL (ys.map fun s => s.cps.toList)
  | [] => rfl
  | [y] => rfl
  | y :: z :: r => by
    have ih := join_list (z :: r)
    show (y ++ SEP ++ Str.join SEP (z :: r)).cps.toList = _
    rw [Str.cps_append, Str.cps_append, Array.toList_append, Array.toList_append, ih, sep_list]
    rfl
theorem apart_of : ∀ {l : List Nat}, l.Pairwise (fun i j => i + 3 ≤ j) → ∀ {i j : Nat}, i ∈ l → j ∈ l → i < j → i + 3 ≤ j
  | a :: l, h, i, j, h1, h2, hij => by
    obtain ⟨p1, p2⟩ := List.pairwise_cons.mp h
    rcases List.mem_cons.mp h1 with e1 | e1 <;> rcases List.mem_cons.mp h2 with e2 | e2
    · omega
    · rw [e1]; exact p1 j e2
    · have := p1 i e1
      omega
    · exact apart_of p2 e1 e2 hij
theorem kind_ge (x : Str) : ¬ strKind x < strKind SEP := by
  have e : strKind SEP = 1 := by decide +kernel
  rw [e]
  unfold Builtin.Str.strKind
  split
  · decide
  · split <;> decide
theorem split_join (ys : List Str) (hne : ys ≠ []) (hp : ∀ y ∈ ys, Plain y.cps.toList) : Txt.split (Str.join SEP ys) SEP = ys := by
  have hx := join_list ys
  generalize Str.join SEP ys = x at hx
  have hpl : ∀ p ∈ ys.map (fun s => s.cps.toList), Plain p := fun p hp' => by
    obtain ⟨y, hy, rfl⟩ := List.mem_map.mp hp'
    exact hp y hy
  have hl : x.cps.toList.length = x.length := by simp [Str.length]
  have hits := hits_are (x := x) (ys.map fun s => s.cps.toList) [] hpl (by rw [hx]; rfl)
  have hrange : List.range' ([] : List Nat).length ((joinL (ys.map fun s => s.cps.toList)).length + 1) = List.range' 0 (x.length + 1) := by rw [← hx, hl]; rfl
  rw [hrange, show ([] : List Nat).length = 0 from rfl] at hits
  have occ : occurrences x SEP 0 x.length (x.length + 1) = cutsL 0 (ys.map fun s => s.cps.toList) := by
    rw [StrLaws.occ_eq]
    refine (occ_all x SEP x.length (x.length + 1) _ (#[], 0) List.pairwise_lt_range' (fun _ _ _ => Nat.zero_le _) (fun i hi j hj hij h1 h2 => ?_) (by simp)).trans ?_
    · have m1 : i ∈ cutsL 0 (ys.map fun s => s.cps.toList) := by
        rw [← hits]
        exact List.mem_filter.mpr ⟨hi, h1⟩
      have m2 : j ∈ cutsL 0 (ys.map fun s => s.cps.toList) := by
        rw [← hits]
        exact List.mem_filter.mpr ⟨hj, h2⟩
      rw [sep_len]
      exact apart_of (cuts_apart _ 0) m1 m2 hij
    · rw [Nat.sub_zero, hits]
      rfl
  have parts : StrLaws.partsFrom x 3 0 (cutsL 0 (ys.map fun s => s.cps.toList)) = ys := strs_back (parts_are (x := x) _ [] (by simpa using hne) (by rw [hx]; rfl))
  unfold Txt.split
  have one : (∃ y, ys = [y]) → [x] = ys := fun ⟨y, e⟩ => by
    rw [e] at hx ⊢
    rw [str_back (a := x) (b := y) hx]
  split
  · rename_i h
    refine one ?_
    match ys, hne, hx with
    | [y], _, _ => exact ⟨y, rfl⟩
    | y :: z :: r, _, hx =>
      exfalso
      rw [Bool.or_eq_true, decide_eq_true_eq, decide_eq_true_eq, sep_len] at h
      rcases h with h | h
      · have e := congrArg List.length hx
        have e2 : (joinL ((y :: z :: r).map fun (s : Str) => s.cps.toList)).length = y.cps.toList.length + 3 + (joinL ((z :: r).map fun (s : Str) => s.cps.toList)).length := by
          show (y.cps.toList ++ [32, 43, 32] ++ joinL ((z :: r).map fun (s : Str) => s.cps.toList)).length = _
          rw [List.length_append, List.length_append]
          rfl
        omega
      · exact kind_ge x h
  · split
    · rename_i h
      rw [occ] at h
      refine one ?_
      match ys, hne, h with
      | [y], _, _ => exact ⟨y, rfl⟩
      | y :: z :: r, _, h => exact absurd h (by simp [cutsL])
    · rw [occ, StrLaws.partsBetween_eq, sep_len, parts]
/-! ### the figures of a number -/
open PySem.NumText
theorem num_list {n : Int} (h : 0 ≤ n) : (Str.ofString (toString n)).cps.toList = (Nat.toDigits 10 n.toNat).map Char.toNat := by
  obtain ⟨m, rfl⟩ := Int.eq_ofNat_of_zero_le h
  exact PySem.W.KIN.signs_num m
theorem num_digits {n : Int} (h : 0 ≤ n) : AllDigits (Str.ofString (toString n)).cps.toList := fun c hc => by
  rw [num_list h] at hc
  obtain ⟨ch, hch, e⟩ := List.mem_map.mp hc
  rw [← e]
  exact PyProof.Rows.digit_range (Nat.isDigit_of_mem_toDigits (by decide) (by decide) hch)
theorem num_val {n : Int} (h : 0 ≤ n) : ((digitsVal (Str.ofString (toString n)).cps.toList : Nat) : Int) = n := by
  rw [num_list h, PySem.W.KIN.val_back]
  omega
theorem num_head {n : Int} (h : 0 < n) : ∃ c r, (Str.ofString (toString n)).cps.toList = c :: r ∧ c ≠ 48 := by
  have hd := num_digits (Int.le_of_lt h)
  have hv := num_val (Int.le_of_lt h)
  have hl := num_list (Int.le_of_lt h)
  generalize (Str.ofString (toString n)).cps.toList = cs at *
  cases cs with
  | nil => exact absurd hv (by show ((0 : Nat) : Int) ≠ n; omega)
  | cons c r =>
    refine ⟨c, r, rfl, fun e => ?_⟩
    subst e
    have e1 : digitsVal (48 :: r) = n.toNat := by omega
    have t := toDigits_all (48 :: r) hd
    rw [e1] at t
    have len := congrArg List.length hl
    rw [List.length_map, t] at len
    rw [List.dropWhile_cons, if_pos (show ((48 : Nat) == 48) = true from rfl)] at len
    have dl : (r.dropWhile (fun x => x == 48)).length ≤ r.length := (List.dropWhile_sublist _).length_le
    cases hw : r.dropWhile (· == 48) with
    | nil =>
      rw [hw] at len
      have lr : r = [] := List.length_eq_zero_iff.mp (by
        have : r.length + 1 = 1 := len
        omega)
      rw [lr] at hv
      exact absurd hv (by show ((0 : Nat) : Int) ≠ n; omega)
    | cons d w =>
      rw [hw] at len dl
      have : r.length + 1 = ((d :: w).map Char.ofNat).length := len
      rw [List.length_map] at this
      omega
end Us
namespace L2
open PySem PySem.Spec PyProof.Rows
/-- a list walked, no state changed: y for each x -/
theorem comp_flat {K : PySem.W.Frag} {a : Addr} {xs ys : List V} {slots : List Nat} {te : TE} {tt : TTn} {σ : L2.St} {H : Hp} {Q : VK} (hv : ∀ R : VK, R (.ref a) H → te σ H R) (hA : SqL K H a xs) (hl : ys.length = xs.length) (hn : xs.length ≤ 1000000)
    (hs : ∀ (i : Nat) (x y : V), xs[i]? = some x → ys[i]? = some y → ∀ R : Option V → Hp → Prop, R (some y) H → tt (some x :: outs σ slots) H R) (q : ∀ D, H D = none → Q (.ref D) (upd H D (.lst ys))) : tComp slots (iList K te) tt σ H Q := by
  refine hv _ ⟨a, rfl, ⟨xs, hA⟩, xs.length, fun i zs H' => H' = H ∧ zs = ys.take i, hn, ⟨rfl, rfl⟩, ?_, ?_⟩
  · rintro i zs H' hi ⟨rfl, rfl⟩
    obtain ⟨x, hx⟩ : ∃ x, xs[i]? = some x := ⟨_, List.getElem?_eq_getElem hi⟩
    obtain ⟨y, hy⟩ : ∃ y, ys[i]? = some y := ⟨_, List.getElem?_eq_getElem (by omega)⟩
    refine ⟨⟨xs, x, hA, hx⟩, fun v H2 h => ?_⟩
    obtain ⟨rfl, h⟩ := h
    obtain rfl : x = v := Option.some.inj (hx.symm.trans (h xs hA))
    refine hs i x y hx hy _ ⟨rfl, ?_⟩
    rw [List.take_add_one, hy]
    rfl
  · rintro zs H' ⟨rfl, rfl⟩
    refine ⟨⟨xs, hA, Nat.le_refl _⟩, fun D hD => ?_⟩
    rw [← hl, List.take_length]
    exact q D hD
/-- a list walked, each step a call that leaves what is there: y for each x -/
theorem comp_calls {K : PySem.W.Frag} {xs ys : List V} {slots : List Nat} {te : TE} {tt : TTn} {σ : L2.St} {H : Hp} {Q : VK} (hv : ∀ R : VK, (∀ a' H', Same H H' → SqL K H' a' xs → H a' = none → R (.ref a') H') → te σ H R) (hl : ys.length = xs.length) (hn : xs.length ≤ 1000000)
    (hs : ∀ (i : Nat) (x y : V) (H' : Hp), xs[i]? = some x → ys[i]? = some y → Same H H' → ∀ R : Option V → Hp → Prop, (∀ H2, Same H' H2 → R (some y) H2) → tt (some x :: outs σ slots) H' R) (q : ∀ D H', Same H H' → H' D = none → Q (.ref D) (upd H' D (.lst ys))) : tComp slots (iList K te) tt σ H Q := by
  refine hv _ fun a' H0 g0 hA _ => ⟨a', rfl, ⟨xs, hA⟩, xs.length, fun i zs H' => Same H0 H' ∧ zs = ys.take i, hn, ⟨Same.refl H0, rfl⟩, ?_, ?_⟩
  · rintro i zs H' hi ⟨g, rfl⟩
    obtain ⟨x, hx⟩ : ∃ x, xs[i]? = some x := ⟨_, List.getElem?_eq_getElem hi⟩
    obtain ⟨y, hy⟩ : ∃ y, ys[i]? = some y := ⟨_, List.getElem?_eq_getElem (by omega)⟩
    refine ⟨⟨xs, x, g.seq hA, hx⟩, fun v H2 h => ?_⟩
    obtain ⟨rfl, h⟩ := h
    obtain rfl : x = v := Option.some.inj (hx.symm.trans (h xs (g.seq hA)))
    refine hs i x y H2 hx hy (g0.trans g) _ fun H3 g3 => ⟨g.trans g3, ?_⟩
    rw [List.take_add_one, hy]
    rfl
  · rintro zs H' ⟨g, rfl⟩
    refine ⟨⟨xs, g.seq hA, Nat.le_refl _⟩, fun D hD => ?_⟩
    rw [← hl, List.take_length]
    exact q D H' (g0.trans g) hD
end L2

/-! A COMPREHENSION out of whose block an own exception flies -/
namespace L2
open PySem PySem.Spec PyProof.Rows
section
variable {M : Model} {A : Around} {E : Value → Shared → Prop} {s : Shared}
theorem noted_mono {env : Env} {E E' : Value → Shared → Prop} {e : Value} (h : notedBy M A env E e s) (k : ∀ e s', E e s' → E' e s') : notedBy M A env E' e s := wpAny_mono h (fun _ _ z => k _ _ z) fun _ _ z => k _ _ z
/-- the traceback's flight is told anew, whatever the frame -/
theorem flight_any {base : Heap} {l : List Env} {e : Addr} {cls a0 fl : Value} {fr : Option Addr} {Q : Unit → Shared → Prop} (hkb : base.StaysIn s.heap) (hl : s.heap.FunFrames base l) (ht : s.heap.TracedAtW base e cls a0 fl)
    (h : ∀ h' fl', base.StaysIn h' → h'.FunFrames base l → h'.TracedAtW base e cls a0 fl' → (∀ b o, s.heap.get? b = some o → (∀ vs, o.data ≠ .fields vs) → h'.get? b = some o) → Q () { s with heap := h' }) : wpAny M A (setFlight (.ref e) fr) Q E s := by
  obtain ⟨oe, vs, T, oT, ts, he, hc, hd, h1, hnT, hTe, hT, hdT, h3⟩ := ht
  have sz : 3 < ts.size := (Array.getElem?_eq_some_iff.mp h3).1
  have ot : ∀ b, b ≠ T → (s.heap.update T (Obj.mapFields (·.setIfInBounds 3 (fr.elim Value.none fun f => rawInt f)))).get? b = s.heap.get? b := fun b hb => Heap.get?_update_other _ _ (Ne.symm hb)
  have nr : ∀ b o, s.heap.get? b = some o → (∀ vs, o.data ≠ .fields vs) → b ≠ T := fun b o hb hn q => by
    rw [q, hT] at hb
    cases hb
    exact hn ts hdT
  unfold setFlight
  refine wpAny_bind (wpAny_field he hd h1 ?_)
  rw [if_pos (show (Value.ref T != Value.none) = true by simp)]
  refine wpAny_setField hT hdT sz (h _ (fr.elim Value.none fun f => rawInt f) (fun b o hb => (ot b fun q => by rw [q, hnT] at hb; cases hb).trans (hkb b o hb)) (hl.of_keeps fun b o hb hn => ⟨o, (ot b (nr b o hb hn)).trans hb, rfl⟩) ?_ fun b o hb hn => (ot b (nr b o hb hn)).trans hb)
  exact ⟨oe, vs, T, _, _, (ot e (Ne.symm hTe)).trans he, hc, hd, h1, hnT, hTe, Heap.get?_update_self _ hT (Obj.isFreed_of_fields (Obj.data_mapFields hdT _)), Obj.data_mapFields hdT _, by simp [sz]⟩
/-- a frame is left, whatever the flight is told as -/
theorem leave_any {base : Heap} {env : Env} {outer : List Env} {L e : Addr} {cls a0 fl : Value} {Q : Unit → Shared → Prop} (hfr : A.frames = some (env :: outer)) (hf : env.frame = some L) (hl : s.heap.FunFrames base (env :: outer)) (ht : s.heap.TracedAtW base e cls a0 fl) (hkb : base.StaysIn s.heap) (hen : base.get? e = none)
    (h : ∀ h', Heap.FlyingW base outer e cls a0 h' → s.heap.UpToSlots h' → Q () { s with heap := h' }) : wpAny M A (leaving env (.ref e)) Q E s := by
  have fin : ∀ h', Heap.LeftW base (env :: outer) e cls a0 s.heap h' → Q () { s with heap := h' } := fun h' hL => by
    obtain ⟨k1, ⟨_, _, k2⟩, k3, k4⟩ := hL
    exact h h' ⟨k1, hen, k2, k3⟩ k4
  by_cases hfl : (fl == rawInt L) = true
  · have e1 : fl = rawInt L := beq_iff_eq.mp hfl
    subst e1
    unfold leaving
    refine wpAny_bind (wpAny_noteFrame_againW hf ht ?_)
    exact wpAny_setFlight_noneW hkb hl ht fun h' k1 k2 k3 k4 => fin h' ⟨k1, k2, k3, fun b o hb hn => ⟨o.slots, k4 b o hb hn⟩⟩
  · obtain ⟨oe, vs, T, oT, ts, he, ⟨hc, h0⟩, hd, h1, hnT, hTe, hT, hdT, h3⟩ := ht
    subst hc
    unfold leaving noteFrame
    simp only [hf]
    refine wpAny_bind (wpAny_bind (wpAny_field he hd h1 ?_))
    rw [if_pos (show (Value.ref T != Value.none) = true by simp)]
    refine wpAny_bind (wpAny_field hT hdT h3 ?_)
    rw [if_neg hfl]
    refine wpAny_bind (wpAny_setField hT hdT (Array.getElem?_eq_some_iff.mp h3).1 ?_)
    have ot : ∀ b, b ≠ T → (s.heap.update T (Obj.mapFields (·.setIfInBounds 3 Value.none))).get? b = s.heap.get? b := fun b hb => Heap.get?_update_other _ _ (Ne.symm hb)
    have nr : ∀ b o, s.heap.get? b = some o → (∀ vs, o.data ≠ .fields vs) → b ≠ T := fun b o hb hn q => by
      rw [q, hT] at hb
      cases hb
      exact hn ts hdT
    refine wpAny_newEntryW hfr (hl.of_keeps fun b o hb hn => ⟨o, (ot b (nr b o hb hn)).trans hb, rfl⟩) hf ((ot e (Ne.symm hTe)).trans he) (fun b o hb => (ot b fun q => by rw [q, hnT] at hb; cases hb).trans (hkb b o hb)) hen hd (Array.getElem?_eq_some_iff.mp h1).1 h0 fun h' hL => ?_
    obtain ⟨x1, x2, x3, x4⟩ := hL
    exact fin h' ⟨x1, x2, x3, fun b o hb hn => x4 b o ((ot b (nr b o hb hn)).trans hb) hn⟩
/-- frames and a smaller base, but for a thing that is no frame -/
theorem frames_but {B B' h h' : Heap} {a : Addr} (hB : ∀ b o, B'.get? b = some o → B.get? b = some o) (hs : ∀ b, b ≠ a → h'.get? b = h.get? b) : ∀ {l : List Env}, h.FunFrames B l → (∀ env ∈ l, env.frame ≠ some a) → h'.FunFrames B' l
  | [], _, _ => trivial
  | env :: r, hl, hn => by
    obtain ⟨hk, ⟨L, o, hf, hb, ho, hd⟩, hr⟩ := hl
    have nL : L ≠ a := fun z => hn env (List.mem_cons_self ..) (by rw [hf, z])
    refine ⟨hk, ⟨L, o, hf, ?_, (hs L nL).trans ho, hd⟩, frames_but hB hs hr fun e he => hn e (List.mem_cons_of_mem _ he)⟩
    cases z : B'.get? L with
    | none => rfl
    | some o' => rw [hB _ _ z] at hb; cases hb
end
/-- what flies out of the block -/
def blkX (X : Cx) (EE : XK) (Y : Cx) : Value → Shared → Prop := fun e s' => ∃ (ps : List (Addr × Obj)) (σc : St) (H1 : Hp) (s1 : Shared), Inv Y ps σc H1 s1 ∧ CXE X.prog X.w X.stack H1 s1 EE e s'
def compCxE (X : Cx) (EE : XK) (x : Str) (slots : List Nat) (scope : Scope) (cl : List (Str × Addr)) (C : Addr) (s2 : Shared) (H2 : Hp) (fp : List Addr) (pn : List (Addr × Obj)) : Cx :=
  (compCx X x slots scope cl C s2 H2 fp pn).wish (blkX X EE (compCx X x slots scope cl C s2 H2 fp pn))
section
variable {X : Cx} {EE : XK} {elt iter : Expr} {ifs : List Expr} {x : Str} {px pos : Pos} {scope : Scope} {cl : List (Str × Addr)} {slots : List Nat} {wi : TI} {tt : TTn}
theorem passB {C : Addr} {s2 : Shared} {H2 : Hp} {fp : List Addr} {pn : List (Addr × Obj)} : Passes (CXE X.prog X.w) (compCxE X EE x slots scope cl C s2 H2 fp pn) EE := fun pins σ H1 s1 e s' I h => ⟨pins, σ, H1, s1, I.unwish, h⟩
/-- behind a state of this body: what is known of old things, where the flight's base knows all that the body's own start knew -/
theorem Fly0.out2 {pins : List (Addr × Obj)} {σ : St} {H1 : Hp} {s1 : Shared} (I : Inv X pins σ H1 s1) (O : X.ex = []) {x C : Addr} {H' : Hp} {s' : Shared} (F : Fly0 X.prog X.w X.stack H1 s1 x H' s') {h' : Heap} {B : Heap} {a0 : Value}
    (t1 : ∀ b u o, H' b = some u → s'.heap.get? b = some o → B.get? b = some o) (t2 : ∀ b o₀ o o', X.s₀.heap.get? b = some o₀ → s1.heap.get? b = some o → b ∉ frs X.stack → s'.heap.get? b = some o' → B.get? b = some o')
    (fl' : Heap.FlyingW B X.outer x (.ref C) a0 h') (up : ∀ b o, b ∈ frs X.outer → s'.heap.get? b = some o → (∀ vs, o.data ≠ .fields vs) → ∃ sl, h'.get? b = some { o with slots := sl }) : Fly X.prog X.w X.outer X.H₀ X.s₀ x C H' { s' with heap := h' } := by
  have st : ∀ b o, B.get? b = some o → h'.get? b = some o := fl'.1
  have nx : ∀ b : Addr, b ∉ X.ex := fun b => by rw [O]; simp
  have ne : ∀ b o, X.s₀.heap.get? b = some o → b ∉ frs X.outer → b ∉ frs X.stack := fun b o e nb hb => by
    rcases List.mem_cons.mp (I.stkSub b hb) with z | z
    · exact absurd (Heap.lt_size e) (by rw [z]; exact Nat.not_lt.mpr I.ok.above)
    · exact nb z
  have old : ∀ b o, X.s₀.heap.get? b = some o → b ∉ frs X.outer → ∃ o', s'.heap.get? b = some o' ∧ B.get? b = some o' := fun b o e nb => by
    obtain ⟨o1, e1⟩ := I.base.there b o e (nx b)
    obtain ⟨o2, e2⟩ := F.un.there b o1 e1 (by simp)
    exact ⟨o2, e2, t2 b o o1 o2 e e1 (ne b o e nb) e2⟩
  have slot : ∀ b o, X.s₀.heap.get? b = some o → X.H₀ b = none → b ∈ frs X.outer → ∃ sl, h'.get? b = some { o with slots := sl } := fun b o e n hb => by
    obtain ⟨sl1, e1⟩ := I.base.slot b o e n hb (nx b)
    obtain ⟨sl2, e2⟩ := F.un.any e1 (I.base.free b o e n (nx b)) (by simp)
    obtain ⟨_, o0, ho0, hd⟩ := I.ok.funs.mem hb
    rw [e] at ho0
    cases ho0
    obtain ⟨sl3, e3⟩ := up b _ hb e2 fun vs q => hd vs q
    exact ⟨sl3, e3⟩
  have fresh0 : X.s₀.heap.get? x = none := by
    cases z : X.s₀.heap.get? x with
    | none => rfl
    | some o =>
      obtain ⟨o1, e1⟩ := I.base.there x o z (nx x)
      rw [F.fresh] at e1
      cases e1
  refine ⟨⟨F.os.trans I.os, F.bare, ⟨fun b o e n hb _ => ?_, fun b o e n hb _ => slot b o e n hb, fun b o e n _ => ?_, fun b o e _ => ?_, fun b xs e => F.un.tups b xs (I.base.tups b xs e), fun b o u e => F.un.frzs b o u (I.base.frzs b o u e), fun b ps e => ?_⟩,
    F.hok.keptT fun b u o e q => st b o (t1 b u o e q), F.new, fresh0⟩, ⟨B, a0, fl', fun b u o e q => ?_, fun b o o' e nb q => ?_⟩⟩
  · have e1 := I.base.keep b o e n hb (nx b)
    have n1 := I.base.free b o e n (nx b)
    have e2 := F.un.keep b o e1 n1 (ne b o e hb) (by simp)
    exact st b o (t2 b o o o e e1 (ne b o e hb) e2)
  · obtain ⟨o1, e1⟩ := I.base.there b o e (nx b)
    exact F.un.free b o1 e1 (I.base.free b o e n (nx b)) (by simp)
  · by_cases hb : b ∈ frs X.outer
    · obtain ⟨sl, q⟩ := slot b o e (I.ok.frf b hb) hb
      exact ⟨_, q⟩
    · obtain ⟨o', _, q⟩ := old b o e hb
      exact ⟨o', st _ _ q⟩
  · obtain ⟨m1, e1⟩ := I.base.tbls b ps e
    obtain ⟨m2, e2⟩ := F.un.tbls b _ e1
    exact ⟨m1 ++ m2, by rw [e2, Array.append_assoc]⟩
  · obtain ⟨o1, e1⟩ := (F.hok b u e).get
    have eB := t1 b u o1 e e1
    have q' : h'.get? b = some o := q
    rw [st _ _ eB] at q'
    cases q'
    exact eB
  · obtain ⟨o1, _, eB⟩ := old b o e nb
    have q' : h'.get? b = some o' := q
    rw [st _ _ eB] at q'
    cases q'
    exact eB
/-- an own exception that flies out of the block flies out of the body -/
theorem comp_flies {use : Option (Value → Sem Unit)} {Q : Value → Shared → Prop} {pins : List (Addr × Obj)} {σ : St} {H2 : Hp} {s2 : Shared} {fp : List Addr} {C : Addr} {acc e : Value} {s' : Shared} (O : OwnX X EE) (I2 : Inv X pins σ H2 s2) (f2 : ∀ b ∈ fp, FpOk X pins H2 b) (hC : s2.heap.objs.size < C)
    (q : (compCxE X EE x slots scope cl C s2 H2 fp (X.pn ++ pins)).xe e s') : notedBy (model X.prog X.w) X.A (compEnvC scope cl C X.env) (fun e s' => compPost (model X.prog X.w) X.A X.xe use Q acc C (.error e) s') e s' := by
  obtain ⟨ps, σc, H1, s1, J, xa, Cl, H', rfl, F, hE⟩ := q
  have I1 : Inv X pins σ H1 s1 := I2.call' (s' := s1) (ch := fp) J.os J.base J.hok J.bare fun b hb => by
    obtain ⟨_, q1, _, q2, q3, q4⟩ := f2 b hb
    exact ⟨q2, q1, q3, q4⟩
  obtain ⟨B, a0, fl, t1, t2⟩ := F.fl
  have fl0 := fl
  rw [O.st] at fl0
  obtain ⟨m, hm, _⟩ := J.loc
  have hm' : s1.heap.Ns C m := hm
  have freeC : H1 C = none := J.free
  obtain ⟨oC, es, ep, hoC, hdC, rC⟩ := hm'
  have nst : C ∉ frs X.stack := fun z => by
    rcases List.mem_cons.mp (I2.stkSub C z) with w | w
    · exact absurd I2.lt (by rw [← w]; exact Nat.not_lt.mpr (Nat.le_of_lt hC))
    · obtain ⟨_, o, ho, _⟩ := I2.ok.funs.mem w
      obtain ⟨o1, e1⟩ := I2.base.there C o ho (by rw [O.ex]; simp)
      exact absurd (Heap.lt_size e1) (Nat.not_lt.mpr (Nat.le_of_lt hC))
  have eC' : s'.heap.get? C = some oC := F.un.keep C oC hoC freeC nst (by simp)
  have fC' : H' C = none := F.un.free C oC hoC freeC (by simp)
  show wpAny (model X.prog X.w) X.A (noteFrame (.ref xa) X.env) _ _ s'
  refine wpAny_looks_onW (by rw [I2.ok.frames, O.st]) O.fr fl0 fun h1 held up1 => ?_
  have ns1 : h1.Ns C m := up1.ns ⟨oC, es, ep, eC', hdC, rC⟩
  refine ⟨m, ns1, fun h2 sb cenv hce => ?_⟩
  obtain ⟨k1, k2, k3, k4⟩ := held
  obtain ⟨oe, vs, T, oT, ts, he, hc, hd, hv1, hnT, hTe, hT, hdT, h3⟩ := k4
  have nd : ∀ (b : Addr) (o : Obj) (vs : Array Value), h1.get? b = some o → o.data = .fields vs → b ≠ C := fun b o vs e d z => by
    obtain ⟨o', es', ep', ho', hd', _⟩ := ns1
    rw [z, ho'] at e
    cases e
    rw [hd'] at d
    cases d
  have bo : ∀ b o, (PySem.W.hideAll B [C]).get? b = some o → B.get? b = some o := fun b o e => PySem.W.of_hideAll _ e
  have hnb : ∀ b, B.get? b = none → (PySem.W.hideAll B [C]).get? b = none := fun b z => by
    cases w : (PySem.W.hideAll B [C]).get? b with
    | none => rfl
    | some o => rw [bo _ _ w] at z; cases z
  have nC0 : ∀ b o, (PySem.W.hideAll B [C]).get? b = some o → b ≠ C := fun b o e z => by
    rw [z, PySem.W.hideAll_none [C] (List.mem_singleton.mpr rfl)] at e
    cases e
  have st2 : (PySem.W.hideAll B [C]).StaysIn h2 := fun b o e => (sb.2 b (nC0 b o e)).trans (k1 b o (bo b o e))
  have fr2 : h2.FunFrames (PySem.W.hideAll B [C]) (X.env :: X.outer) := frames_but bo (fun b hb => sb.2 b hb) k3 fun env henv z => nst (by
    rw [O.st]
    exact List.mem_filterMap.mpr ⟨env, henv, z⟩)
  have tr2 : h2.TracedAtW (PySem.W.hideAll B [C]) xa (.ref Cl) a0 _ := ⟨oe, vs, T, oT, ts, (sb.2 xa (nd _ _ _ he hd)).trans he, hc, hd, hv1, hnb _ hnT, hTe, (sb.2 T (nd _ _ _ hT hdT)).trans hT, hdT, h3⟩
  unfold PySem.passOn
  refine wpAny_bind (wpAny_field ((sb.2 xa (nd _ _ _ he hd)).trans he) hd hv1 ?_)
  rw [if_neg (show ¬ ((Value.ref T == Value.none) = true) by simp)]
  refine wpAny_bind (flight_any st2 fr2 tr2 fun h3 fl' st3 fr3 tr3 kp3 => wpAny_throw (O.xe _ _ ?_))
  refine leave_any (by rw [I2.ok.frames, O.st]) O.fr fr3 tr3 st3 (hnb _ fl.2.1) fun h4 fl4 up4 => ?_
  refine ⟨xa, Cl, H', rfl, Fly0.out2 I1 O.ex F.toFly0 (B := PySem.W.hideAll B [C]) (fun b u o e q => ?_) (fun b o₀ o o' e0 e1 nb q => ?_) fl4 (fun b o hb e hn => ?_), hE⟩
  · exact PySem.W.hideAll_get _ (t1 b u o e q) fun z => by
      rw [List.mem_singleton.mp z, fC'] at e
      cases e
  · exact PySem.W.hideAll_get _ (t2 b o o' e1 nb q) fun z => by
      rw [List.mem_singleton.mp z] at e0
      obtain ⟨o2, e2⟩ := I2.base.there C o₀ e0 (by rw [O.ex]; simp)
      exact absurd (Heap.lt_size e2) (Nat.not_lt.mpr (Nat.le_of_lt hC))
  · obtain ⟨sl1, e1⟩ := up1 b o e hn
    have nb : b ≠ C := fun z => nst (by
      rw [← z, O.st]
      obtain ⟨env, h1, h2⟩ := List.mem_filterMap.mp hb
      exact List.mem_filterMap.mpr ⟨env, List.mem_cons_of_mem _ h1, h2⟩)
    have e2 := (sb.2 b nb).trans e1
    have e3 := kp3 b _ e2 hn
    obtain ⟨sl4, e4⟩ := up4 b _ e3 hn
    exact ⟨sl4, e4⟩
/-- the loop of the block; RR: what is wanted of the made list -/
theorem comp_loopE {pins : List (Addr × Obj)} {σ : St} {H2 : Hp} {s2 s4 : Shared} {it C : Addr} {fp : List Addr} {tn : Nat → Heap → Prop} {J : It} {n : Nat} {W : Nat → List V → Hp → Prop} {RR : Result → Shared → Prop} {D : Addr}
    (hc : X.calm = true) (hxe : ∀ e s', (compCxE X EE x slots scope cl C s2 H2 fp (X.pn ++ pins)).xe e s' → notedBy (model X.prog X.w) X.A (compEnvC scope cl C X.env) (fun e s' => RR (.error e) s') e s') (hnd : (x :: slots.map (fun k => X.N.getD k "")).Nodup) (hx : scope.names.lookup x = some .local) (I2 : Inv X pins σ H2 s2) (T : Turn X.prog X.w X.K (.Name x px) J fp it tn)
    (f2 : ∀ b ∈ fp, FpOk X pins H2 b) (hfs : ∀ b ∈ fp, b < s2.heap.objs.size) (hC : s2.heap.objs.size < C) (hD : s2.heap.objs.size ≤ D) (hDC : D ≠ C)
    (I4 : Inv (compCxE X EE x slots scope cl C s2 H2 fp (X.pn ++ pins)) [] (none :: outs σ slots) H2 s4) (st4 : tn 0 s4.heap) (fr4 : ∀ b ∈ fp, H2 b = none) (eD4 : s4.heap.get? D = some { cls := .type "list", data := .seq #[] 0 }) (fD4 : H2 D = none)
    (ht : ∀ fp' pn, PTn (compCxE X EE x slots scope cl C s2 H2 fp' pn) ifs elt tt) (hn : n ≤ 1000000) (w0 : W 0 [] H2)
    (turn : ∀ i ys H', i < n → W i ys H' → J.go i H' ∧ ∀ v H3, J.yld i H' v H3 → tt (some v :: outs σ slots) H3 fun y H4 => match y with | some y => W (i + 1) (ys ++ [y]) H4 | none => W (i + 1) ys H4)
    (stop : ∀ ys H', W n ys H' → J.stop n H')
    (fin : ∀ ys its k ps σc H' s', W n ys H' → Inv (compCxE X EE x slots scope cl C s2 H2 fp (X.pn ++ pins)) ps σc H' s' → H' D = none → Vals ys its → ys.length ≤ sizeLine → s'.heap.get? D = some { cls := .type "list", data := .seq its.toArray k } → RR (.ok .next) s') :
    codeAny (model X.prog X.w) X.A (.compLoop (.ListComp elt [⟨.Name x px, iter, ifs, 0⟩] scope pos) 0 (.ref it) (.ref D) (compEnvC scope cl C X.env)) RR s4 := by
  have hln : (n : Nat) < sizeLine := by have : sizeLine = 16777216 := sizeLine_eq; omega
  have fpok : ∀ (H' : Hp) (ps : List (Addr × Obj)), (∀ p ∈ ps, p.1 ∉ fp) → (∀ b ∈ fp, H' b = none) → ∀ b ∈ fp, FpOk (compCxE X EE x slots scope cl C s2 H2 fp (X.pn ++ pins)) ps H' b := fun H' ps hps hn b hb => by
    obtain ⟨_, q1, q2, _, q3, q4⟩ := f2 b hb
    refine ⟨hn b hb, (I4.ok.exf b hb).1, I4.ok.exfs b hb, .inl hb, (I4.ok.exf b hb).2, fun p hp z => ?_⟩
    rcases List.mem_append.mp hp with w | w
    · exact q4 p w z
    · exact hps p w (by rw [z]; exact hb)
  have nDfp : D ∉ fp := fun z => absurd (hfs D z) (Nat.not_lt.mpr hD)
  have nDfs : D ∉ (compCxE X EE x slots scope cl C s2 H2 fp (X.pn ++ pins)).fs := fun z => by
    obtain ⟨_, o, ho, _⟩ := I4.ok.funs.mem z
    exact absurd (Heap.lt_size ho) (Nat.not_lt.mpr hD)
  have nDcl : ∀ y c, cl.lookup y = some c → c ≠ D := fun y c e z => by
    obtain ⟨v, q⟩ := I4.cell y c e
    have q2 : ∃ w, s4.heap.IsCell D w := ⟨v, by rw [← z]; exact q⟩
    obtain ⟨w, oc, h3, h4⟩ := q2
    rw [eD4] at h3
    cases h3
    cases h4
  have nDpn : ∀ p ∈ X.pn ++ pins, p.1 ≠ D := fun p hp z => absurd (Heap.lt_size (I2.pin p hp).1) (by rw [z]; exact Nat.not_lt.mpr hD)
  refine codeAny_compLoop_tests (fun k s' => ∃ i ys its q z H', k = n - i ∧ i ≤ n ∧ ys.length ≤ i ∧ Inv (compCxE X EE x slots scope cl C s2 H2 fp (X.pn ++ pins)) [] (z :: outs σ slots) H' s' ∧ tn i s'.heap ∧ (∀ b ∈ fp, H' b = none) ∧
    s'.heap.get? D = some { cls := .type "list", data := .seq (its : List Value).toArray q } ∧ H' D = none ∧ Vals ys its ∧ W i ys H') ?_ n ⟨0, [], [], 0, none, H2, rfl, Nat.zero_le _, Nat.le_refl _, I4, st4, fr4, eD4, fD4, .nil, w0⟩
  rintro k s' ⟨i, ys, its, q, z, H', rfl, hi, hyl, J1, st1, fr1, eD, fD, hv, w⟩
  have JD : Inv (compCxE X EE x slots scope cl C s2 H2 fp (X.pn ++ pins)) [(D, { cls := .type "list", data := .seq its.toArray q })] (z :: outs σ slots) H' s' := J1.pins_of fun p hp => by
    rw [List.mem_singleton.mp hp]
    exact ⟨eD, fD, hDC, nDfs, fun v e => by cases e⟩
  have nps : ∀ p ∈ ([(D, { cls := .type "list", data := .seq its.toArray q })] : List (Addr × Obj)), p.1 ∉ fp := fun p hp => by
    rw [List.mem_singleton.mp hp]
    exact nDfp
  by_cases hlt : i < n
  · obtain ⟨go, step⟩ := turn i ys H' hlt w
    refine thn (T.item (compCxE X EE x slots scope cl C s2 H2 fp (X.pn ++ pins)) rfl rfl rfl hc i _ s' _ H' _ JD (fpok H' _ nps fr1) st1 go) fun r s1 hr => ?_
    obtain ⟨u, er, h4⟩ := hr
    subst er
    show wpAny _ _ (letOwnedTupleGo (.Name x px) (.ref it) u >>= fun _ => assign (.Name x px) (compEnvC scope cl C X.env) u) _ _ s1
    refine wpAny_bind (thn h4 fun _ s5 ⟨v, H5, J5, r5, y5, st5, fr5⟩ => ?_)
    have eD5 := (J5.pin (D, _) (List.mem_append_right _ (List.mem_singleton.mpr rfl))).1
    have fD5 := (J5.pin (D, _) (List.mem_append_right _ (List.mem_singleton.mpr rfl))).2.1
    have J5' := J5.pinned (fpok H5 _ nps fr5) (T.obj _ _ st5)
    have keepAll : ∀ (H7 : Hp) (s7 : Shared) (σ7 : St), Inv (compCxE X EE x slots scope cl C s2 H2 fp (X.pn ++ pins)) ([(D, { cls := .type "list", data := .seq its.toArray q })] ++ pinsAt fp s5.heap) σ7 H7 s7 → tn (i + 1) s7.heap ∧ (∀ b ∈ fp, H7 b = none) ∧ s7.heap.get? D = some { cls := .type "list", data := .seq its.toArray q } ∧ H7 D = none := fun H7 s7 σ7 J7 => by
      have at_ : ∀ b ∈ fp, ∀ o, s5.heap.get? b = some o → s7.heap.get? b = some o ∧ H7 b = none := fun b hb o e => by
        have z := J7.pin (b, o) (List.mem_append_right _ (List.mem_append_right _ (mem_pinsAt hb e)))
        exact ⟨z.1, z.2.1⟩
      have zD := J7.pin (D, { cls := .type "list", data := .seq its.toArray q }) (List.mem_append_right _ (List.mem_append_left _ (List.mem_singleton.mpr rfl)))
      refine ⟨T.keep _ _ _ st5 fun b hb o e => (at_ b hb o e).1, fun b hb => ?_, zD.1, zD.2.1⟩
      obtain ⟨o, e, _⟩ := T.obj _ _ st5 b hb
      exact (at_ b hb o e).2
    refine wpAny_mono (pg_name (X := compCxE X EE x slots scope cl C s2 H2 fp (X.pn ++ pins)) (i := 0) hnd rfl (.inl (lookup_relabel_local hx)) (.inr (lookup_relabel_local hx)) _ s5 _ H5 v u (fun σ6 H6 => σ6 = some v :: outs σ slots ∧ H6 = H5) J5' r5 ⟨rfl, rfl⟩) (fun _ s6 q6 => ?_) fun e s q => hxe e s q
    obtain ⟨σ6, H6, J6, rfl, rfl⟩ := q6
    refine wpAny_mono (ht fp (X.pn ++ pins) _ s6 _ _ _ J6 (step v _ y5)) (fun ok s7 q7 => ?_) fun e s q => hxe e s q
    cases ok with
    | false =>
      rw [if_neg Bool.false_ne_true] at q7 ⊢
      obtain ⟨H7, J7, w7⟩ := q7
      obtain ⟨st7, fr7, eD7, fD7⟩ := keepAll H7 s7 _ J7
      exact ⟨n - (i + 1), by omega, i + 1, ys, its, q, some v, H7, rfl, hlt, Nat.le_succ_of_le hyl, J7.pins_of (fun _ z => nomatch z), st7, fr7, eD7, fD7, hv, w7⟩
    | true =>
      rw [if_pos rfl] at q7 ⊢
      refine wpAny_mono q7 (fun y s8 q8 => ?_) fun e s q => hxe e s q
      obtain ⟨yv, H8, J8, r8, w8⟩ := q8
      obtain ⟨st8, fr8, eD8, fD8⟩ := keepAll H8 s8 _ J8
      have hl := hv.length
      refine append_at (hsz := by rw [List.size_toArray]; omega) eD8 fun h9 hs9 hD9 => ?_
      have J9 : Inv (compCxE X EE x slots scope cl C s2 H2 fp (X.pn ++ pins)) [] (some v :: outs σ slots) H8 { s8 with heap := h9 } := (J8.pins_of (pins' := []) (fun _ z => nomatch z)).turned (it := D) (t' := s8.toks) (fun b o hb e => (hs9.2 b hb).trans e) fD8 hDC (.inr hD) nDcl (fun p hp => nDpn p (by
        have z : p ∈ (X.pn ++ pins) ++ [] := hp
        rw [List.append_nil] at z
        exact z))
      refine ⟨n - (i + 1), by omega, i + 1, ys ++ [yv], its ++ [y], q + 1, some v, H8, rfl, hlt, by rw [List.length_append, List.length_singleton]; omega, J9, T.keep _ _ _ st8 (fun b hb o e => (hs9.2 b (fun z => nDfp (by rw [← z]; exact hb))).trans e), fr8, ?_, fD8, hv.append (.cons r8 .nil), w8⟩
      rw [show (its ++ [y]).toArray = its.toArray.push y by simp]
      exact hD9
  · obtain rfl : i = n := Nat.le_antisymm hi (Nat.not_lt.mp hlt)
    refine thn (T.done (compCxE X EE x slots scope cl C s2 H2 fp (X.pn ++ pins)) rfl rfl rfl hc i _ s' _ H' _ JD (fpok H' _ nps fr1) st1 (stop ys H' w)) fun r s1 hr => ?_
    obtain ⟨er, J9⟩ := hr
    subst er
    have e9 := J9.pin (D, _) (List.mem_append_right _ (List.mem_singleton.mpr rfl))
    exact fin ys its q _ _ H' s1 w J9 e9.2.1 hv (Nat.le_trans hyl (Nat.le_of_lt hln)) e9.1

/-- the block's start, for both uses -/
theorem comp_startE {pins : List (Addr × Obj)} {σ : St} {s2 : Shared} {it : Addr} {fp : List Addr} {tn : Nat → Heap → Prop} {J : It} {H2 : Hp} {n : Nat} {W : Nat → List V → Hp → Prop} {RR : Addr → Addr → Result → Shared → Prop} {E : Value → Shared → Prop}
    (hc : X.calm = true) (hxe : ∀ C D e s', s2.heap.objs.size < C → (∀ b ∈ fp, b < s2.heap.objs.size) → (compCxE X EE x slots scope cl C s2 H2 fp (X.pn ++ pins)).xe e s' → notedBy (model X.prog X.w) X.A (compEnvC scope cl C X.env) (fun e s' => RR D C (.error e) s') e s') (hcell : ∀ y ∈ scope.names, y.2 ≠ .cell) (hkind : scope.kind = .function) (hx : scope.names.lookup x = some .local) (hin : CellsIn cl X.env.cells) (hhas : HasCells cl (relabel scope X.env).names) (hsl : SlotsOk X scope slots)
    (hnd : (x :: slots.map (fun k => X.N.getD k "")).Nodup) (ht : ∀ C s2 H2 fp pn, PTn (compCxE X EE x slots scope cl C s2 H2 fp pn) ifs elt tt) (I2 : Inv X pins σ H2 s2) (T : Turn X.prog X.w X.K (.Name x px) J fp it tn) (st2 : tn 0 s2.heap) (f2 : ∀ b ∈ fp, FpOk X pins H2 b)
    (hn : n ≤ 1000000) (w0 : W 0 [] H2)
    (turn : ∀ i ys H', i < n → W i ys H' → J.go i H' ∧ ∀ v H3, J.yld i H' v H3 → tt (some v :: outs σ slots) H3 fun y H4 => match y with | some y => W (i + 1) (ys ++ [y]) H4 | none => W (i + 1) ys H4)
    (stop : ∀ ys H', W n ys H' → J.stop n H')
    (fin : ∀ C D ys its k ps σc H' s', s2.heap.objs.size < C → s2.heap.objs.size ≤ D → D ≠ C → (∀ b ∈ fp, b < s2.heap.objs.size) → W n ys H' → Inv (compCxE X EE x slots scope cl C s2 H2 fp (X.pn ++ pins)) ps σc H' s' → H' D = none → Vals ys its → ys.length ≤ sizeLine →
      s'.heap.get? D = some { cls := .type "list", data := .seq its.toArray k } → RR D C (.ok .next) s') :
    wpAny (model X.prog X.w) X.A (newList []) (fun acc s3 => wpAny (model X.prog X.w) X.A (newFunctionEnv scope X.env.globals cl [] X.env.qual none .none (some X.env)) (fun cenv s4 =>
      codeAny (model X.prog X.w) X.A (.compStart (.ListComp elt [⟨.Name x px, iter, ifs, 0⟩] scope pos) 0 (.ref it) acc { cenv with scope := relabel scope X.env }) (fun r s' => ∃ D, acc = .ref D ∧ RR D cenv.locals r s') s4) E s3) E s2 := by
  refine wpAny_newObj_type (wpAny_newFunctionEnv hcell (by intro y hy; simp at hy) (fun h1 hns hsb => ?_) hkind)
  dsimp only at hns hsb ⊢
  have hfs : ∀ b ∈ fp, b < s2.heap.objs.size := fun b hb => by
    obtain ⟨o, e, _⟩ := T.obj _ _ st2 b hb
    exact Heap.lt_size e
  have hsz : (s2.heap.push ({ cls := .type "list", dict := none, data := .seq ([] : List Value).toArray } : Obj)).objs.size = s2.heap.objs.size + 1 := Heap.size_push _ _
  have old : ∀ b o, s2.heap.get? b = some o → h1.get? b = some o := fun b o e => by
    refine hsb.extBut b o ?_ (Heap.get?_push_of_some _ (Heap.get?_push_of_some _ e))
    rw [hsz]
    exact Nat.ne_of_lt (Nat.lt_succ_of_lt (Heap.lt_size e))
  have eD : h1.get? s2.heap.objs.size = some { cls := .type "list", data := .seq #[] 0 } := by
    refine hsb.extBut _ _ ?_ (Heap.get?_push_of_some _ (Heap.get?_push_size _ rfl))
    rw [hsz]
    exact Nat.ne_of_lt (Nat.lt_succ_self _)
  rw [hsz] at hns ⊢
  have fD : H2 s2.heap.objs.size = none := I2.hok.fresh (Nat.le_refl _)
  have I4 := (comp_cx (x := x) (slots := slots) (tk := s2.toks + ([] : List (Str × Value)).length) I2 hkind hin hhas hsl f2 hfs (Nat.lt_succ_self _) hns old).wish (blkX X EE (compCx X x slots scope cl (s2.heap.objs.size + 1) s2 H2 fp (X.pn ++ pins)))
  have st4 : tn 0 h1 := T.keep _ _ _ st2 fun b _ o e => old b o e
  have loop : ∀ s4 : Shared, s4 = { s2 with heap := h1, toks := s2.toks + ([] : List (Str × Value)).length } →
      codeAny (model X.prog X.w) X.A (.compLoop (.ListComp elt [⟨.Name x px, iter, ifs, 0⟩] scope pos) 0 (.ref it) (.ref s2.heap.objs.size) (compEnvC scope cl (s2.heap.objs.size + 1) X.env))
        (fun r s' => ∃ D, Value.ref s2.heap.objs.size = .ref D ∧ RR D (s2.heap.objs.size + 1) r s') s4 := by
    rintro s4 rfl
    exact comp_loopE hc (fun e s' q => noted_mono (hxe _ _ e s' (Nat.lt_succ_self _) hfs q) fun _ _ z => ⟨_, rfl, z⟩) hnd hx I2 T f2 hfs (Nat.lt_succ_self _) (Nat.le_refl _) (Nat.ne_of_lt (Nat.lt_succ_self _)) I4 st4 (fun b hb => (f2 b hb).1) eD fD (fun fp' pn => ht _ _ _ fp' pn) hn w0 turn stop
      fun ys its k ps σc H' s' a1 a2 a3 a4 a5 a6 => ⟨_, rfl, fin _ _ ys its k ps σc H' s' (Nat.lt_succ_self _) (Nat.le_refl _) (Nat.ne_of_lt (Nat.lt_succ_self _)) hfs a1 a2 a3 a4 a5 a6⟩
  exact codeAny_compStart_list (loop _ rfl) (T.self _ 0 _ _ _ st4 (loop _ rfl))
/-- y = [elt for x in iter if ..], y in slot i -/
theorem ps_setCompE (O : OwnX X EE) {i : Nat} {y : Str} {py spos : Pos} (hN : X.N.Nodup) (hi0 : X.N[i]? = some y) (hy : Loc X.env.scope y) (hi : PI X (.Name x px) iter wi) (ht : ∀ C s2 H2 fp pn, PTn (compCxE X EE x slots scope cl C s2 H2 fp pn) ifs elt tt)
    (hsw : swapsWith (.ListComp elt [⟨.Name x px, iter, ifs, 0⟩] scope pos) (some (.Name y py)) spos.line X.env = pure true := by rfl) (hc : X.calm = true := by rfl) (hclos : closureFor scope X.env = pure cl := by rfl)
    (hcell : ∀ y ∈ scope.names, y.2 ≠ .cell := by decide +kernel) (hkind : scope.kind = .function := by rfl) (hnames : ∀ y ∈ scope.names, y.2 = .local → scope.names.lookup y.1 = some .local := by decide +kernel) (hx : scope.names.lookup x = some .local := by rfl)
    (hin : CellsIn cl X.env.cells := by first | exact cells_nil | exact cells_cons rfl cells_nil | exact cells_cons rfl (cells_cons rfl cells_nil) | exact cells_cons rfl (cells_cons rfl (cells_cons rfl cells_nil)))
    (hhas : HasCells cl (relabel scope X.env).names := by (repeat (refine has_cons (fun h => by first | exact ⟨_, rfl⟩ | (rcases h with h | h <;> cases h)) ?_)); exact has_nil)
    (hsl : SlotsOk X scope slots := by first | exact trivial | exact ⟨⟨rfl, rfl⟩, trivial⟩ | exact ⟨⟨rfl, rfl⟩, ⟨rfl, rfl⟩, trivial⟩ | exact ⟨⟨rfl, rfl⟩, ⟨rfl, rfl⟩, ⟨rfl, rfl⟩, trivial⟩)
    (hnd : (x :: slots.map (fun k => X.N.getD k "")).Nodup := by decide +kernel) (hs : ∀ v, foldedSetIterable iter X.env v = pure v := by intro _; rfl)
    (hf : X.fn y = true ∨ X.env.scope.names.lookup y = some .local := by first | exact .inl rfl | exact .inr rfl | assumption) :
    PS X (.Assign [.Name y py] (.ListComp elt [⟨.Name x px, iter, ifs, 0⟩] scope pos) spos) (tAsg (tComp slots wi tt) (gName i)) := by
  intro pins s σ H D0 I h
  rw [exec_Assign_Name_used _ _ _ _ hsw]
  refine wpAny_bind (wpAny_standAt (wpAny_bind ?_))
  show wpAny _ X.A (do let _ ← comprehension (.ListComp elt [⟨.Name x px, iter, ifs, 0⟩] scope pos) scope X.env _ (newList []) false (eval iter X.env) (some (assign (.Name y py) X.env))) _ _ s
  refine wpAny_bind (thn (wpAny_comprehension_free (use := some (assign (.Name y py) X.env)) (Q := fun _ s' => SP X pins D0 .next s') rfl hs hclos hkind hnames (thn (hi pins s σ H _ I h) fun v s1 h1 => thn h1 fun itv s2 h2 => ?_)) fun _ s' q => wpAny_pure (wpAny_pure q))
  obtain ⟨it, fp, tn, J, H2, e, I2, T, st2, f2, n, W, hn, w0, turn, stop⟩ := h2
  subst e
  refine wpAny_mono (comp_startE (E := X.xe) (RR := fun D C r s' => compPost (model X.prog X.w) X.A X.xe (some (assign (.Name y py) X.env)) (fun _ s' => SP X pins D0 .next s') (.ref D) C r s') hc (fun C D e s' c1 c4 q => comp_flies O I2 f2 c1 q) hcell hkind hx hin hhas hsl hnd ht I2 T st2 f2 hn w0 turn (fun ys H' w => (stop ys H' w).1)
    fun C D ys its k ps σc H' s' c1 c2 c3 c4 a1 a2 a3 a4 a5 a6 => ?_) (fun acc s3 h3 => wpAny_mono h3 (fun cenv s4 h4 => codeAny_mono h4 fun r s' q => ?_) fun _ _ z => z) fun _ _ z => z
  · obtain ⟨m, hm, _⟩ := a2.loc
    have J1 := comp_back I2 a2.unwish f2 c1 c2 c3 (Heap.SameBut.refl C s'.heap) a3 a4 a5 a6
    have q := (stop ys H' a1).2 D a3
    have ltC : ∀ a o, s2.heap.get? a = some o → a ≠ C := fun a o e => Nat.ne_of_lt (Nat.lt_trans (Heap.lt_size e) c1)
    have nL : X.env.locals ≠ C := Nat.ne_of_lt (Nat.lt_trans I2.lt c1)
    have nc : ∀ z c, X.env.cells.lookup z = some c → c ≠ C := fun z c e => by
      obtain ⟨v, qq⟩ := I2.cell z c e
      exact Nat.ne_of_lt (Nat.lt_trans qq.lt c1)
    have fC : upd H' D (.lst ys) C = none := by
      rw [upd_ne (Ne.symm c3)]
      exact a2.free
    show wpAny _ X.A (assign (.Name y py) X.env (.ref D)) _ _ s'
    refine wpAny_assign_Name (store_ok2 J1 hN hi0 hy (show RelV (.ref D) (.ref D) from rfl) (fun s5 J5 ch => ?_) hf)
    obtain ⟨a, sb, ha⟩ := ch
    have aC : C ≠ a := fun z => by
      rcases ha with w | w
      · exact nL (w.symm.trans z.symm)
      · exact nc _ _ w z.symm
    refine ⟨m, hm.sameBut sb aC, fun h' hb => ⟨_, _, J5.turned (it := C) (t' := s5.toks) (fun b o hbb e => (hb.2 b hbb).trans e) fC (Ne.symm nL) (.inr (Nat.le_trans I2.sz (Nat.le_of_lt c1))) nc (fun p hp z => ?_), q⟩⟩
    exact ltC _ _ (I2.pin p hp).1 z
  · obtain ⟨D, rfl, q⟩ := q
    exact q
end
end L2

/-! TEXTS, more: a loop over a text's signs; how many pluses a text has -/
namespace L2
open PySem PySem.Spec PyProof.Rows
theorem for_str {z : Str} {g : TG} {tb : TS} {D : Ends} {σ : St} {H : Hp} (Pv : Nat → St → Hp → Prop) (h0 : Pv 0 σ H)
    (hs : ∀ i c σ H, z.cps.toList[i]? = some c → Pv i σ H → g (.str ⟨#[c]⟩) σ H fun σ2 H2 => tb { D with nx := Pv (i + 1), ct := Pv (i + 1), bk := D.nx } σ2 H2) (hd : ∀ σ H, Pv z.cps.size σ H → D.nx σ H) :
    ∃ W : Nat → Nat → St → Hp → Prop, (∃ m, W 0 m σ H) ∧ ∀ i m σ H, W i m σ H →
      ((Its z).stop i H ∧ D.nx σ H) ∨ ((Its z).go i H ∧ ∃ N : St → Hp → Prop, (∀ σ' H', N σ' H' → ∃ m', m' < m ∧ W (i + 1) m' σ' H') ∧ ∀ x H', (Its z).yld i H x H' → g x σ H' fun σ2 H2 => tb { D with nx := N, ct := N, bk := D.nx } σ2 H2) := by
  refine ⟨fun i m σ H => m = z.cps.size - i ∧ i ≤ z.cps.size ∧ Pv i σ H, ⟨z.cps.size, by simp, Nat.zero_le _, h0⟩, ?_⟩
  rintro i m σ H ⟨rfl, hi, p⟩
  by_cases hlt : i < z.cps.size
  · refine .inr ⟨hlt, Pv (i + 1), fun σ' H' p' => ⟨z.cps.size - (i + 1), by omega, rfl, hlt, p'⟩, fun x H' y => ?_⟩
    obtain ⟨e, c, hc, ex⟩ := y
    subst e ex
    exact hs i c σ _ (by rw [Array.getElem?_toList]; exact hc) p
  · obtain rfl : i = z.cps.size := by omega
    exact .inl ⟨Nat.le_refl _, hd σ H p⟩
section
variable {X : Cx}
/-- a written list of texts as one -/
def strsOf : List Expr → Option (List Str)
  | [] => some []
  | .Constant (.str z) _ _ :: r => (strsOf r).map (z :: ·)
  | _ :: _ => none
def tStrA (zs : List Str) : TA := fun _ H Q => Q (zs.map V.str) H
theorem pa_strsL : ∀ {es : List Expr} (zs : List Str), strsOf es = some zs → PA X es (tStrA zs)
  | [], zs, h => by
    cases h
    exact pa_nil
  | e :: es, zs, h => by
    unfold strsOf at h
    split at h
    · rename_i heq
      cases heq
    · rename_i z j pos r heq
      cases heq
      cases hr : strsOf es with
      | none => rw [hr] at h; cases h
      | some ms =>
        rw [hr] at h
        cases h
        exact pa_cons pe_str (pa_strsL ms hr) rfl
    · cases h
def tStrL (zs : List Str) : TE := fun _ H Q => zs.length ≤ sizeLine ∧ ∀ p, H p = none → Q (.ref p) (upd H p (.lst (zs.map V.str)))
theorem pe_strsL {es : List Expr} {pos : Pos} (zs : List Str) (h : strsOf es = some zs) : PE X (.List es pos) (tStrL zs) := fun pins s σ H Q I q =>
  pe_lst (pa_strsL zs h) pins s σ H Q I ⟨by rw [List.length_map]; exact q.1, q.2⟩
end
/-! written lists of texts are looked at once; then they stand for themselves -/
theorem hideO {X : Cx} {G : TS → Prop} {zs zs2 : List Str} {x x2 : Str} {p q r p2 q2 b2 r2 : Pos} {es es2 : List Expr} {e1 e2 e3 e4 a : Expr} {op : Operator} {rest : List Stmt} (h : strsOf es = some zs) (h' : strsOf es2 = some zs2)
    (w : swapsWith (.List es q) (some (.Name x p)) r.line X.env = pure false) (w' : swapsWith (.BinOp a op (.List (e1 :: e2 :: e3 :: e4 :: es2) q2) b2) (some (.Name x2 p2)) r2.line X.env = pure false)
    (k : ∀ es es2, strsOf es = some zs → strsOf es2 = some zs2 → swapsWith (.List es q) (some (.Name x p)) r.line X.env = pure false → swapsWith (.BinOp a op (.List (e1 :: e2 :: e3 :: e4 :: es2) q2) b2) (some (.Name x2 p2)) r2.line X.env = pure false →
      ∃ t, PSs X (.Assign [.Name x p] (.List es q) r :: .Assign [.Name x2 p2] (.BinOp a op (.List (e1 :: e2 :: e3 :: e4 :: es2) q2) b2) r2 :: rest) t ∧ G t) :
    ∃ t, PSs X (.Assign [.Name x p] (.List es q) r :: .Assign [.Name x2 p2] (.BinOp a op (.List (e1 :: e2 :: e3 :: e4 :: es2) q2) b2) r2 :: rest) t ∧ G t := k es es2 h h' w w'
theorem hideT {X : Cx} {G : TS → Prop} {zs : List Str} {p q r s : Pos} {c i : Expr} {es : List Expr} {s1 s2 s3 s4 s5 s6 : Stmt} {rest els : List Stmt} (h : strsOf es = some zs)
    (k : ∀ es, strsOf es = some zs → ∃ t, PSs X (s1 :: s2 :: s3 :: s4 :: s5 :: s6 :: .If c [.Return (some (.Subscript (.List es p) i q)) r] els s :: rest) t ∧ G t) : ∃ t, PSs X (s1 :: s2 :: s3 :: s4 :: s5 :: s6 :: .If c [.Return (some (.Subscript (.List es p) i q)) r] els s :: rest) t ∧ G t := k es h
theorem Same.put {H H' : Hp} {l : Addr} {o : HO} (g : Same H H') (hl : H l = none) : Same H (upd H' l o) := fun a u e => by
  rw [upd_ne (fun z => by rw [z, hl] at e; cases e)]
  exact g a u e
end L2
namespace Us
open PySem
def cnt (s : Str) : Nat := s.cps.toList.count 43
theorem cnt_append (a b : Str) : cnt (a ++ b) = cnt a + cnt b := by
  unfold cnt
  rw [Str.cps_append, Array.toList_append, List.count_append]
theorem cnt_join (sep : Str) : ∀ ys : List Str, cnt (Str.join sep ys) ≤ (ys.map cnt).sum + ys.length * cnt sep
  | [] => Nat.zero_le _
  | [y] => by
    show cnt y ≤ cnt y + 0 + 1 * cnt sep
    omega
  | y :: z :: r => by
    have ih := cnt_join sep (z :: r)
    show cnt (y ++ sep ++ Str.join sep (z :: r)) ≤ cnt y + ((z :: r).map cnt).sum + ((z :: r).length + 1) * cnt sep
    rw [cnt_append, cnt_append, Nat.add_mul]
    omega
theorem joinL_cnt : ∀ ps : List (List Nat), ps.length ≤ (joinL ps).count 43 + 1
  | [] => Nat.zero_le _
  | [_] => Nat.succ_le_succ (Nat.zero_le _)
  | p :: q :: r => by
    have ih := joinL_cnt (q :: r)
    show (q :: r).length + 1 ≤ (p ++ [32, 43, 32] ++ joinL (q :: r)).count 43 + 1
    rw [List.count_append, List.count_append]
    have e : List.count 43 [32, 43, 32] = 1 := by decide
    omega
theorem parts_few (t : Str) : (Txt.split t SEP).length ≤ cnt t + 1 := by
  have h := joinL_cnt ((Txt.split t SEP).map fun s => s.cps.toList)
  rw [List.length_map, ← join_list, StrLaws.join_split] at h
  exact h
end Us

namespace Law
open PySem PySem.Spec PyProof.Rows L2
def top (i : Nat) : Stmt := PySem.Challenge.pw_unitshares_k14_read.main.body.getD i (.Pass ⟨0, 0, 0, 0⟩)
abbrev s_is_number : Stmt := top 12
abbrev s_read_share : Stmt := top 11
abbrev s_rises : Stmt := top 8
abbrev s_read : Stmt := top 10
abbrev s_law_kind : Stmt := top 21
abbrev s_law_tried : Stmt := top 25
abbrev s_law_due : Stmt := top 24
abbrev s_law_odd : Stmt := top 22
abbrev s_law_turned : Stmt := top 23
abbrev s_law_whole : Stmt := top 15
abbrev s_law_list : Stmt := top 20
abbrev s_law_cell_at : Stmt := top 14
abbrev s_law : Stmt := top 26
section
variable {P : Program} {w : World} {K : PySem.W.Frag} {mg : Str → Option Value} {base : Heap}
def isDig (c : Nat) : Bool := decide (48 ≤ c ∧ c ≤ 57)
def isNum (z : Str) : Bool := decide (z.length ≠ 0 ∧ z.length ≤ 400 ∧ z.cps.toList.head? ≠ some 48) && z.cps.toList.all isDig
theorem dig_in (c : Nat) : (!(Builtin.Str.occurrences (Str.ofString "0123456789") ⟨#[c]⟩ 0 (Str.ofString "0123456789").length 1).isEmpty) = isDig c := by
  rw [StrLaws.found_one]
  have e : (Str.ofString "0123456789").cps.toList = [48, 49, 50, 51, 52, 53, 54, 55, 56, 57] := by decide +kernel
  rw [e]
  unfold isDig
  apply decide_eq_decide.mpr
  simp only [List.mem_cons, List.not_mem_nil, or_false]
  omega
def sp_isnum : Sp := fun vs H Q _ => ∃ z : Str, vs = [.str z] ∧ z.length ≤ 1000000 ∧ ∀ H', Same H H' → Q (.bl (isNum z)) H'
theorem sc_is_number : FnScope ["figures"] ["figures"] (defScope s_is_number) := ⟨rfl, rfl, rfl, by decide +kernel, rfl, by decide +kernel, by decide +kernel⟩
set_option maxHeartbeats 4000000 in
theorem cal_is_number (D : Def K mg "is_number" s_is_number) (z_len : mg "len" = none) (z_all : mg "all" = none) : Cal P w K mg base CX0 "is_number" ["figures"] 1 sp_isnum := by
  refine D.cal sc_is_number (fun _ _ _ _ _ _ us hl => match us, hl with | [_], _ => rfl) (fun vs H Q E h => ?_) (fun f cdv A outer s H vs Q E hr h => ?_)
  · obtain ⟨z, rfl, _⟩ := h
    rfl
  obtain ⟨z, rfl, hz, q⟩ := h
  have zs : z.length ≤ sizeLine := Nat.le_trans hz (by decide)
  have hl : z.cps.toList.length = z.length := by simp [Str.length]
  refine ⟨_, (pss_cons (ps_if (pw_or (pt_cmpR op_eq (pe_callB call_len (by rfl) z_len PySem.boot_len (pa_cons (pv 0) pa_nil)) pe_int (nomark _)) (pw_or (pt_cmpR op_gt (pe_callB call_len (by rfl) z_len PySem.boot_len (pa_cons (pv 0) pa_nil)) pe_int (nomark _)) (pw_or1 (pt_cmpR op_eq (pe_ix ix_str (pv 0) pe_int (fun _ _ => rfl)) pe_str (nomark _))))).pt
      (pss_one (ps_ret pe_bl))
      pss_nil)
    (pss_one (ps_ret (pe_callB (call_allL rfl) (by rfl) z_all PyProof.Rows.boot_all (pa_cons (pe_comp (slots := []) (hnd := (show List.Nodup (["sign"] : List Str) by decide +kernel)) (pi_str (pv 0)) (fun C s2 H2 fp pn => (ptn0 (pe_cmpR op_in_str (pv 0) pe_str (by rfl))))) pa_nil))))), ?_⟩
  have no : (z.length = 0 ∨ 400 < z.length ∨ z.cps.toList.head? = some 48) → Q (.bl false) H := fun h => by
    have e : isNum z = false := by
      unfold isNum
      rw [decide_eq_false (by rintro ⟨h1, h2, h3⟩; rcases h with h | h | h; exact h1 h; omega; exact h3 h), Bool.false_and]
    have := q H (Same.refl H)
    rw [e] at this
    exact this
  refine ⟨_, rfl, _, z.length, rfl, ⟨zs, rfl⟩, rfl, _, rfl, ?_⟩
  refine ite2 (fun c => ?_) (fun c => ?_)
  · refine iteT ?_
    exact no (.inl (by have := V.int.inj (of_decide_eq_true c); omega))
  have c1 : z.length ≠ 0 := fun e => c (decide_eq_true (by rw [e]; rfl))
  refine ⟨_, rfl, _, z.length, rfl, ⟨zs, rfl⟩, _, _, rfl, rfl, _, rfl, ?_⟩
  refine ite2 (fun d => ?_) (fun d => ?_)
  · refine iteT ?_
    exact no (.inr (.inl (by have : (400 : Int) < z.length := of_decide_eq_true d; omega)))
  have c2 : ¬ (400 : Int) < z.length := of_decide_eq_false (Bool.eq_false_iff.mpr d)
  obtain ⟨c0, r, hc0⟩ : ∃ c r, z.cps.toList = c :: r := by
    cases e : z.cps.toList with
    | nil => rw [e] at hl; exact absurd hl.symm c1
    | cons c r => exact ⟨c, r, rfl⟩
  have a0 : atI z.cps.toList 0 = some c0 := by rw [hc0]; exact atI_nat (j := 0) rfl
  refine ⟨_, rfl, z, 0, c0, rfl, rfl, zs, a0, rfl, _, rfl, ?_⟩
  refine ite2 (fun b => ?_) (fun b => ?_)
  · refine no (.inr (.inr ?_))
    have e : (⟨#[c0]⟩ : Str) = Str.ofString "0" := V.str.inj (of_decide_eq_true b)
    have e2 : (Str.ofString "0").cps.toList = [48] := by decide +kernel
    rw [← e] at e2
    have e3 : [c0] = [48] := e2
    rw [hc0]
    injection e3 with e4
    rw [e4]
    rfl
  have c3 : c0 ≠ 48 := fun e => b (decide_eq_true (by rw [e]; exact congrArg V.str (by decide +kernel)))
  have eN : isNum z = z.cps.toList.all isDig := by
    unfold isNum
    rw [decide_eq_true ⟨c1, by omega, by rw [hc0]; exact fun h => c3 (Option.some.inj h)⟩, Bool.true_and]
  refine ⟨_, rfl, z, rfl, z.cps.size, fun i ys H' => H' = H ∧ ys = ((z.cps.toList.take i).map isDig).map V.bl, hz, ⟨rfl, rfl⟩, ?_, ?_⟩
  · rintro i ys H' hi ⟨rfl, rfl⟩
    refine ⟨hi, fun v H2 h => ?_⟩
    obtain ⟨rfl, ch, hch, rfl⟩ := h
    refine ⟨_, rfl, _, _, rfl, rfl, rfl, ?_⟩
    have h1 : z.cps.toList[i]? = some ch := by rw [Array.getElem?_toList]; exact hch
    rw [dig_in, List.take_add_one, h1, List.map_append, List.map_append]
    rfl
  · rintro ys H' ⟨rfl, rfl⟩
    refine ⟨Nat.le_refl _, fun l hl2 => ?_⟩
    have g := Same.new hl2 (.lst (((z.cps.toList.take z.cps.size).map isDig).map V.bl))
    refine ⟨l, _, rfl, SqL.of upd_same, ?_⟩
    have e : ((z.cps.toList.take z.cps.size).map isDig).all id = isNum z := by
      rw [eN, List.take_of_length_le (by simp), List.all_map]
      rfl
    rw [e]
    exact q _ g
def cut2 (z : Str) : Str := ⟨(z.cps.toList.drop 2).toArray⟩
def goodP (z : Str) : Bool := Txt.startswith z (Str.ofString "1/") && isNum (cut2 z)
def valP (z : Str) : Int := ((PySem.NumText.digitsVal (z.cps.toList.drop 2) : Nat) : Int)
theorem starts_iff (z : Str) : Txt.startswith z (Str.ofString "1/") = decide (z.cps.toList.take 2 = [49, 47]) := by
  have e : (Str.ofString "1/").cps.toList = [49, 47] := by decide +kernel
  have l : (Str.ofString "1/").length = 2 := by decide +kernel
  have hl : z.cps.toList.length = z.length := by simp [Str.length]
  unfold Txt.startswith
  rw [StrLaws.subAt_eq, e, l, List.drop_zero]
  by_cases h : z.cps.toList.take 2 = [49, 47]
  · have h2 := congrArg List.length h
    rw [List.length_take] at h2
    have h3 : min 2 z.cps.toList.length = 2 := h2
    rw [decide_eq_true h, h, decide_eq_true (by omega)]
    rfl
  · rw [decide_eq_false h, beq_eq_false_iff_ne.mpr h, Bool.and_false]
theorem val_of {z : Str} (h : isNum (cut2 z) = true) : (cut2 z).length ≤ 640 ∧ PySem.intText? (cut2 z) = some (valP z) := by
  unfold isNum at h
  rw [Bool.and_eq_true, decide_eq_true_eq] at h
  obtain ⟨⟨h1, h2, h3⟩, h4⟩ := h
  refine ⟨by omega, ?_⟩
  have hd : PySem.NumText.AllDigits (cut2 z).cps.toList := fun c hc => of_decide_eq_true (List.all_eq_true.mp h4 c hc)
  have hne : (cut2 z).cps.toList ≠ [] := fun e => h1 (by
    have : (cut2 z).cps.toList.length = 0 := by rw [e]; rfl
    simpa [Str.length] using this)
  exact PySem.intText_digits hd hne (by omega)
theorem cut2_len (z : Str) : (cut2 z).length ≤ z.length := by
  have : (cut2 z).length = (z.cps.toList.drop 2).length := by simp [cut2, Str.length]
  rw [this, List.length_drop]
  have hl : z.cps.toList.length = z.length := by simp [Str.length]
  omega
def spE_share (BT : Addr) : Sp := fun vs H Q E => ∃ z : Str, vs = [.str z] ∧ z.length ≤ 1000000 ∧ (goodP z = false → ∀ H', Same H H' → E (.ref BT) none H') ∧ (goodP z = true → ∀ H', Same H H' → Q (.int (valP z)) H')
theorem sc_read_share : FnScope ["piece", "figures"] ["piece"] (defScope s_read_share) := ⟨rfl, rfl, rfl, by decide +kernel, rfl, by decide +kernel, by decide +kernel⟩
set_option maxHeartbeats 4000000 in
theorem cal_read_share {BT : Addr} (D : Def K mg "read_share" s_read_share) (z_int : mg "int" = none) (m_BadText : mg "BadText" = some (.ref BT)) (x_BadText : PySem.W.excIn K BT mroVE "ValueError.__new__" = true) (c_is_number : Cal P w K mg base CX0 "is_number" ["figures"] 1 sp_isnum) : Cal P w K mg base (CXE P w) "read_share" ["piece"] 2 (spE_share BT) := by
  refine D.calE sc_read_share (fun _ _ _ _ _ _ us hl => match us, hl with | [_], _ => rfl) (fun vs H Q E h => ?_) (fun f cdv A outer s H vs Q E hr h => ?_)
  · obtain ⟨z, rfl, _⟩ := h
    rfl
  obtain ⟨z, rfl, hz, hb, q⟩ := h
  have zs : z.length ≤ sizeLine := Nat.le_trans hz (by decide)
  have eg : goodP z = (Txt.startswith z (Str.ofString "1/") && isNum (cut2 z)) := rfl
  refine ⟨_, (pss_cons (ps_set (i := 1) sc_read_share.nd rfl (Or.inl rfl) (pe_slice sl_str (pv 0) (po_some pe_int) po_none))
    (pss_cons (ps_if (pw_or (pt_not (pt_val (pe_bm PySem.F.plainAttrs_str PySem.F.slot_str_startswith PySem.F.type_str_startswith mt_starts (pv 0) (pa_cons pe_str pa_nil)))) (pw_or1 (pt_not (pt_val (pe_cal c_is_number hr pass0 (pa_cons (pv 1) pa_nil)))))).pt
      (pss_one (ps_raise own_cx rfl m_BadText x_BadText (pa_cons pe_str pa_nil)))
      pss_nil)
    (pss_one (ps_ret (pe_callTy call_intS (by rfl) z_int PyProof.Rows.boot_int (pa_cons (pv 1) pa_nil)))))), ?_⟩
  refine ⟨_, rfl, _, rfl, z, rfl, zs, ?_⟩
  rw [show Txt.slice z (some 2) none = cut2 z from cut_from2 z]
  refine ⟨_, rfl, rfl, z, _, rfl, rfl, _, rfl, ?_⟩
  generalize Txt.startswith z (Str.ofString "1/") = b1 at *
  cases b1 with
  | false =>
    refine iteT ?_
    exact ⟨(by decide : 1 ≤ sizeLine), hb eg _ (Same.refl H)⟩
  | true =>
    refine iteF ?_
    refine ⟨_, rfl, cut2 z, rfl, Nat.le_trans (cut2_len z) hz, fun H' g => ?_⟩
    refine ⟨_, rfl, ?_⟩
    cases b2 : isNum (cut2 z) with
    | false =>
      rw [b2] at eg
      refine iteT ?_
      exact ⟨(by decide : 1 ≤ sizeLine), hb eg _ g⟩
    | true =>
      obtain ⟨v1, v2⟩ := val_of b2
      rw [b2] at eg
      refine iteF ?_
      exact ⟨_, rfl, cut2 z, _, rfl, v1, v2, q eg _ g⟩
theorem pairwise_of_next : ∀ {xs : List Int}, (∀ (i : Nat) (x y : Int), xs[i]? = some x → xs[i + 1]? = some y → x < y) → xs.Pairwise (· < ·)
  | [], _ => .nil
  | [x], _ => by simp
  | x :: y :: r, h => by
    have ih : (y :: r).Pairwise (· < ·) := pairwise_of_next fun i a b ha hb => h (i + 1) a b (by rw [List.getElem?_cons_succ]; exact ha) (by rw [List.getElem?_cons_succ]; exact hb)
    have xy : x < y := h 0 x y rfl rfl
    refine List.pairwise_cons.mpr ⟨fun z hz => ?_, ih⟩
    rcases List.mem_cons.mp hz with rfl | hz
    · exact xy
    · exact Int.lt_trans xy ((List.pairwise_cons.mp ih).1 z hz)
theorem next_of_pairwise {xs : List Int} (h : xs.Pairwise (· < ·)) {i : Nat} {x y : Int} (hx : xs[i]? = some x) (hy : xs[i + 1]? = some y) : x < y := by
  rw [List.pairwise_iff_getElem] at h
  obtain ⟨h1, rfl⟩ := List.getElem?_eq_some_iff.mp hx
  obtain ⟨h2, rfl⟩ := List.getElem?_eq_some_iff.mp hy
  exact h i (i + 1) h1 h2 (Nat.lt_succ_self i)
def sp_rises (K : PySem.W.Frag) : Sp := fun vs H Q _ => ∃ (p : Addr) (xs : List Int), vs = [.ref p] ∧ SqL K H p (xs.map V.int) ∧ xs.length ≤ 1000000 ∧ ∀ b : Bool, (b = true ↔ xs.Pairwise (· < ·)) → Q (.bl b) H
theorem sc_rises : FnScope ["shares", "place"] ["shares"] (defScope s_rises) := ⟨rfl, rfl, rfl, by decide +kernel, rfl, by decide +kernel, by decide +kernel⟩
theorem cal_rises (D : Def K mg "rises" s_rises) (z_len : mg "len" = none) (z_range : mg "range" = none) : Cal P w K mg base CX0 "rises" ["shares"] 1 (sp_rises K) := by
  refine D.cal sc_rises (fun _ _ _ _ _ _ us hl => match us, hl with | [_], _ => rfl) (fun vs H Q E h => ?_) (fun f cdv A outer s H vs Q E hr h => ?_)
  · obtain ⟨p, xs, rfl, _⟩ := h
    rfl
  obtain ⟨p, xs, rfl, hS, hl, q⟩ := h
  refine ⟨_, (pss_cons (ps_for PassesOwn.never rfl (pi_range2 (by rfl) z_range (pa_cons pe_int (pa_cons (pe_callB call_len_seq (by rfl) z_len PySem.boot_len (pa_cons (pv 0) pa_nil)) pa_nil))) (pg_name (i := 1) sc_rises.nd rfl (Or.inl rfl))
      (pss_one (ps_if (pt_cmpR op_le (pe_ix ix_list (pv 0) (pv 1) (fun _ _ => rfl)) (pe_ix ix_list (pv 0) (pe_op op_sub (pv 1) pe_int) (fun _ _ => rfl)) (nomark _))
          (pss_one (ps_ret pe_bl))
          pss_nil)))
    (pss_one (ps_ret pe_bl))), ?_⟩
  refine ⟨_, rfl, p, _, rfl, .inl hS, 1, _, rfl, ⟨by decide, by decide, by rw [List.length_map]; omega, by rw [List.length_map]; omega⟩, for_range (fun i σ' H' => H' = H ∧ (∃ z, σ' = [some (.ref p), z]) ∧ ∀ (j : Nat) (x y : Int), j < i → xs[j]? = some x → xs[j + 1]? = some y → x < y) ⟨rfl, ⟨none, rfl⟩, fun j x y hj => absurd hj (Nat.not_lt_zero _)⟩ (fun i σ' H' hi h => ?_) (fun σ' H' h => ?_)⟩
  · obtain ⟨rfl, ⟨z, rfl⟩, hk⟩ := h
    rw [List.length_map] at hi
    have hi' : i + 1 < xs.length := by omega
    obtain ⟨x, hx1⟩ : ∃ x, xs[i]? = some x := ⟨_, List.getElem?_eq_getElem (by omega)⟩
    obtain ⟨y, hy1⟩ : ∃ y, xs[i + 1]? = some y := ⟨_, List.getElem?_eq_getElem hi'⟩
    have ax : atI (xs.map V.int) (1 + (i : Int) - 1) = some (.int x) := by
      have e : (1 + (i : Int) - 1) = (i : Int) := by omega
      rw [e, at_int (by omega) (by omega), List.getD_eq_getElem?_getD, show (i : Int).toNat = i from rfl, hx1]
      rfl
    have ay : atI (xs.map V.int) (1 + (i : Int)) = some (.int y) := by
      rw [at_int (by omega) (by omega), List.getD_eq_getElem?_getD, show (1 + (i : Int)).toNat = i + 1 by omega, hy1]
      rfl
    refine ⟨_, rfl, _, rfl, p, _, _, _, rfl, rfl, hS, ay, _, rfl, _, rfl, _, _, rfl, rfl, p, _, _, _, rfl, rfl, hS, ax, _, _, rfl, rfl, _, rfl, ?_⟩
    refine ite2 (fun c => ?_) (fun c => ?_)
    · have c' : y ≤ x := of_decide_eq_true c
      refine q false ⟨fun z => (nomatch z), fun w => ?_⟩
      have := next_of_pairwise w hx1 hy1
      omega
    · have c' : ¬ y ≤ x := of_decide_eq_false (Bool.eq_false_iff.mpr c)
      refine ⟨rfl, ⟨_, rfl⟩, fun j x' y' hj h1 h2 => ?_⟩
      rcases Nat.lt_or_ge j i with lt | ge
      · exact hk j x' y' lt h1 h2
      · obtain rfl : j = i := by omega
        cases hx1.symm.trans h1
        cases hy1.symm.trans h2
        omega
  · obtain ⟨rfl, ⟨z, rfl⟩, hk⟩ := h
    rw [List.length_map] at hk
    refine q true ⟨fun _ => pairwise_of_next fun i x y hx hy => hk i x y ?_ hx hy, fun _ => rfl⟩
    have := (List.getElem?_eq_some_iff.mp hy).1
    omega
def zeroT : Str := Str.ofString "0"
def vals (ps : List Str) : List Int := ps.map valP
def spE_read (K : PySem.W.Frag) (BT NR : Addr) : Sp := fun vs H Q E => ∃ t : Str, vs = [.str t] ∧ t.length ≤ 100000 ∧ (t = zeroT → ∀ r H', H r = none → Same H H' → H' r = some (.lst []) → Q (.ref r) H') ∧
  (t ≠ zeroT → (∃ p ∈ Txt.split t Us.SEP, goodP p = false) → ∀ H', Same H H' → E (.ref BT) none H') ∧ (t ≠ zeroT → (∀ p ∈ Txt.split t Us.SEP, goodP p = true) → ¬ (vals (Txt.split t Us.SEP)).Pairwise (· < ·) → ∀ H', Same H H' → E (.ref NR) none H') ∧
  (t ≠ zeroT → (∀ p ∈ Txt.split t Us.SEP, goodP p = true) → (vals (Txt.split t Us.SEP)).Pairwise (· < ·) → ∀ r H', H r = none → Same H H' → H' r = some (.lst ((vals (Txt.split t Us.SEP)).map V.int)) → Q (.ref r) H')
theorem part_len {t p : Str} (h : p ∈ Txt.split t Us.SEP) : p.length ≤ t.length := by
  have sub : ∀ i j, (Builtin.Str.strSub t i j).length ≤ t.length := fun i j => by
    have e := StrLaws.strSub_toList t i j
    have l1 : (Builtin.Str.strSub t i j).cps.toList.length = (Builtin.Str.strSub t i j).length := by simp [Str.length]
    have l2 : t.cps.toList.length = t.length := by simp [Str.length]
    rw [← l1, e, List.length_take, List.length_drop]
    omega
  unfold Txt.split at h
  split at h
  · rw [List.mem_singleton.mp h]
    exact Nat.le_refl _
  · split at h
    · rw [List.mem_singleton.mp h]
      exact Nat.le_refl _
    · unfold Builtin.Str.partsBetween at h
      obtain ⟨q, _, e⟩ := List.mem_map.mp h
      rw [← e]
      exact sub _ _
theorem sc_read : FnScope ["text", "shares"] ["text"] (defScope s_read) := ⟨rfl, rfl, rfl, by decide +kernel, rfl, by decide +kernel, by decide +kernel⟩
set_option maxHeartbeats 4000000 in
theorem cal_read {BT NR : Addr} (D : Def K mg "read" s_read) (m_NotRising : mg "NotRising" = some (.ref NR)) (x_NotRising : PySem.W.excIn K NR mroVE "ValueError.__new__" = true) (c_rises : Cal P w K mg base CX0 "rises" ["shares"] 1 (sp_rises K)) (c_read_share : Cal P w K mg base (CXE P w) "read_share" ["piece"] 2 (spE_share BT)) : Cal P w K mg base (CXE P w) "read" ["text"] 3 (spE_read K BT NR) := by
  refine D.calE sc_read (fun _ _ _ _ _ _ us hl => match us, hl with | [_], _ => rfl) (fun vs H Q E h => ?_) (fun f cdv A outer s H vs Q E hr h => ?_)
  · obtain ⟨t, rfl, _⟩ := h
    rfl
  obtain ⟨t, rfl, tl, q0, qB, qN, q1⟩ := h
  have sl : sizeLine = 16777216 := sizeLine_eq
  refine ⟨_, (pss_cons (ps_if (pt_cmpR op_eq (pv 0) pe_str (nomark _))
      (pss_one (ps_ret (pe_lst pa_nil)))
      pss_nil)
    (pss_cons (ps_setCompE own_cx (i := 1) sc_read.nd rfl (Or.inl rfl) (slots := []) (hnd := (show List.Nodup (["piece"] : List Str) by decide +kernel)) (pi_list (pe_bm PySem.F.plainAttrs_str PySem.F.slot_str_split PySem.F.type_str_split mt_split (pv 0) (pa_cons pe_str pa_nil))) (fun C s2 H2 fp pn => (ptn0 (pe_cal c_read_share hr passB (pa_cons (pv 0) pa_nil)))))
    (pss_cons (ps_if (pt_not (pt_val (pe_cal c_rises hr pass0 (pa_cons (pv 1) pa_nil))))
      (pss_one (ps_raise own_cx rfl m_NotRising x_NotRising (pa_cons pe_str pa_nil)))
      pss_nil)
    (pss_one (ps_ret (pv 1)))))), ?_⟩
  refine ⟨_, rfl, rfl, _, rfl, ?_⟩
  refine ite2 (fun c => ?_) (fun c => ?_)
  · have e : t = zeroT := V.str.inj (of_decide_eq_true c)
    refine ⟨(by decide : 0 ≤ sizeLine), fun l hl => ?_⟩
    exact q0 e l _ hl (Same.new hl _) upd_same
  have c' : t ≠ zeroT := fun e => c (decide_eq_true (by rw [e]; rfl))
  have spl := split_len t Us.SEP
  have pl : ∀ p ∈ Txt.split t Us.SEP, p.length ≤ 1000000 := fun p hp => Nat.le_trans (part_len hp) (by omega)
  refine ⟨_, rfl, rfl, _, _, rfl, rfl, by decide +kernel, by omega, fun l0 hl0 => ?_⟩
  have g0 := Same.new hl0 (.lst ((Txt.split t Us.SEP).map V.str))
  have e0 : upd H l0 (.lst ((Txt.split t Us.SEP).map V.str)) l0 = some (.lst ((Txt.split t Us.SEP).map V.str)) := upd_same
  have eq0 : Txt.split t (Str.ofString " + ") = Txt.split t Us.SEP := rfl
  rw [eq0]
  generalize upd H l0 (.lst ((Txt.split t Us.SEP).map V.str)) = H0 at *
  generalize Txt.split t Us.SEP = ps at *
  refine ⟨l0, rfl, ⟨_, SqL.of e0⟩, ps.length, fun i ys H' => Same H0 H' ∧ (∀ p ∈ ps.take i, goodP p = true) ∧ ys = ((ps.take i).map valP).map V.int, by omega, ⟨Same.refl H0, fun _ h => (by rw [List.take_zero] at h; cases h), rfl⟩, ?_, ?_⟩
  · rintro i ys H' hi ⟨g, hgood, rfl⟩
    have hA := g.seq (SqL.of (K := K) e0)
    obtain ⟨z, hz⟩ : ∃ z, ps[i]? = some z := ⟨_, List.getElem?_eq_getElem hi⟩
    have hx : (ps.map V.str)[i]? = some (.str z) := by rw [List.getElem?_map, hz]; rfl
    refine ⟨⟨_, _, hA, hx⟩, fun v H2 h => ?_⟩
    obtain ⟨rfl, h⟩ := h
    obtain rfl : V.str z = v := Option.some.inj (hx.symm.trans (h _ hA))
    have hm : z ∈ ps := List.mem_of_getElem? hz
    refine ⟨_, rfl, z, rfl, pl z hm, fun bad H3 g3 => ?_, fun good H3 g3 => ?_⟩
    · exact qB c' ⟨z, hm, bad⟩ _ (g0.trans (g.trans g3))
    · have et : ps.take (i + 1) = ps.take i ++ [z] := by rw [List.take_add_one, hz]; rfl
      refine ⟨g.trans g3, fun p hp => ?_, ?_⟩
      · rw [et] at hp
        rcases List.mem_append.mp hp with hp | hp
        · exact hgood p hp
        · rw [List.mem_singleton.mp hp]
          exact good
      · rw [et, List.map_append, List.map_append]
        rfl
  · rintro ys H' ⟨g, hgood, rfl⟩
    rw [List.take_length] at hgood ⊢
    refine ⟨⟨_, g.seq (SqL.of (K := K) e0), by rw [List.length_map]; exact Nat.le_refl _⟩, fun l hl => ?_⟩
    have g2 := Same.new hl (.lst ((ps.map valP).map V.int))
    have hl0' : H l = none := by
      cases z : H l with
      | none => rfl
      | some o => have := g _ _ (g0 _ _ z); rw [hl] at this; cases this
    have e2 : upd H' l (.lst ((ps.map valP).map V.int)) l = some (.lst ((ps.map valP).map V.int)) := upd_same
    generalize upd H' l (.lst ((ps.map valP).map V.int)) = H2 at *
    refine ⟨_, rfl, l, ps.map valP, rfl, SqL.of e2, by rw [List.length_map]; omega, fun b hb => ?_⟩
    refine ⟨_, rfl, ?_⟩
    cases b with
    | true =>
      refine iteF ?_
      exact ⟨_, rfl, q1 c' hgood (hb.1 rfl) l H2 hl0' (g0.trans (g.trans g2)) e2⟩
    | false =>
      refine iteT ?_
      exact ⟨(by decide : 1 ≤ sizeLine), qN c' hgood (fun z => nomatch hb.2 z) _ (g0.trans (g.trans g2))⟩
def sp_kind (K : PySem.W.Frag) (S C1 C2 C3 C4 C5 : Addr) : Sp := fun vs H Q _ => ∃ (x R : Addr) (b1 b2 b3 b4 b5 : Bool), vs = [.ref x] ∧ H x = some (ExcO x R) ∧ Raised K S C1 C2 C3 C4 C5 R b1 b2 b3 b4 b5 ∧
  ∀ (r : Addr) (H' : Hp), H r = none → Same H H' → H' r = some (.lst ([b1, b2, b3, b4, b5, true].map V.bl)) → Q (.ref r) H'
theorem sc_law_kind : FnScope ["e", "kinds"] ["e"] (defScope s_law_kind) := ⟨rfl, rfl, rfl, by decide +kernel, rfl, by decide +kernel, by decide +kernel⟩
theorem cal_law_kind {S C1 C2 C3 C4 C5 : Addr} (D : Def K mg "_law_kind" s_law_kind) (m_ShareError : mg "ShareError" = some (.ref S)) (m_NoFraction : mg "NoFraction" = some (.ref C1)) (m_NotBelow : mg "NotBelow" = some (.ref C2)) (m_TooGreat : mg "TooGreat" = some (.ref C3)) (m_BadText : mg "BadText" = some (.ref C4)) (m_NotRising : mg "NotRising" = some (.ref C5))
    (z_isinstance : mg "isinstance" = none) (z_ValueError : mg "ValueError" = none) : CalN P w K mg base "_law_kind" ["e"] 1 (sp_kind K S C1 C2 C3 C4 C5) := by
  refine D.calN sc_law_kind (fun _ _ _ _ _ _ us hl => match us, hl with | [_], _ => rfl) (fun vs H Q E h => ?_) (fun f cdv A outer s H vs Q hr h => ?_)
  · obtain ⟨x, R, b1, b2, b3, b4, b5, rfl, _⟩ := h
    rfl
  obtain ⟨x, R, b1, b2, b3, b4, b5, rfl, hx, Rd, q⟩ := h
  refine ⟨_, (pss_cons (ps_set (i := 1) sc_law_kind.nd rfl (Or.inl rfl) (pe_lst (pa_cons (pe_callB call_isiE (by rfl) z_isinstance PyProof.Rows.boot_isinstance (pa_cons (pv 0) (pa_cons (pe_cls m_NoFraction) pa_nil))) (pa_cons (pe_callB call_isiE (by rfl) z_isinstance PyProof.Rows.boot_isinstance (pa_cons (pv 0) (pa_cons (pe_cls m_NotBelow) pa_nil))) (pa_cons (pe_callB call_isiE (by rfl) z_isinstance PyProof.Rows.boot_isinstance (pa_cons (pv 0) (pa_cons (pe_cls m_TooGreat) pa_nil))) (pa_cons (pe_callB call_isiE (by rfl) z_isinstance PyProof.Rows.boot_isinstance (pa_cons (pv 0) (pa_cons (pe_cls m_BadText) pa_nil))) pa_nil))))))
    (pss_one (ps_ret (pe_op op_cat (pv 1) (pe_lst (pa_cons (pe_callB call_isiE (by rfl) z_isinstance PyProof.Rows.boot_isinstance (pa_cons (pv 0) (pa_cons (pe_cls m_NotRising) pa_nil))) (pa_cons (pe_callB call_isiE (by rfl) z_isinstance PyProof.Rows.boot_isinstance (pa_cons (pv 0) (pa_cons (pe_ty z_ValueError boot_ValueError) pa_nil))) pa_nil))))))), ?_⟩
  refine ⟨_, rfl, x, R, _, _, _, rfl, rfl, hx, Rd.f, Rd.k1, _, rfl, x, R, _, _, _, rfl, rfl, hx, Rd.f, Rd.k2, _, rfl, x, R, _, _, _, rfl, rfl, hx, Rd.f, Rd.k3, _, rfl, x, R, _, _, _, rfl, rfl, hx, Rd.f, Rd.k4, (by decide : 4 ≤ sizeLine), fun l hl => ?_⟩
  have g1 := Same.new hl (.lst [.bl b1, .bl b2, .bl b3, .bl b4])
  have hx1 := g1 _ _ hx
  refine ⟨_, rfl, _, rfl, x, R, _, _, _, rfl, rfl, hx1, Rd.f, Rd.k5, _, rfl, x, R, _, _, _, rfl, rfl, hx1, Rd.f, Rd.k6, (by decide : 2 ≤ sizeLine), fun l2 hl2 => ?_⟩
  have g2 := Same.new hl2 (.lst [.bl b5, .bl true])
  refine ⟨l, l2, _, _, rfl, rfl, g2 _ _ upd_same, upd_same, (by decide : 6 ≤ sizeLine), fun r hr' => ?_⟩
  exact q r _ ((g1.trans g2).free hr') (g1.trans (g2.trans (Same.new hr' _))) upd_same
def isBad (t : Str) : Prop := t ≠ zeroT ∧ ∃ p ∈ Txt.split t Us.SEP, goodP p = false
def isNR (t : Str) : Prop := t ≠ zeroT ∧ (∀ p ∈ Txt.split t Us.SEP, goodP p = true) ∧ ¬ (vals (Txt.split t Us.SEP)).Pairwise (· < ·)
def outT (t : Str) : List Int := if t = zeroT then [] else vals (Txt.split t Us.SEP)
theorem not_bad {t : Str} (h : ∀ p ∈ Txt.split t Us.SEP, goodP p = true) : ¬ isBad t := fun ⟨_, p, hp, e⟩ => by rw [h p hp] at e; cases e
theorem zero_not {t : Str} (h : t = zeroT) : ¬ isBad t ∧ ¬ isNR t := ⟨fun z => z.1 h, fun z => z.1 h⟩
def TriedAt (t : Str) (v : V) (bs : List Bool) (H : Hp) : Prop := (isBad t ∧ v = .non ∧ bs = [false, false, false, true, false, true]) ∨ (¬ isBad t ∧ isNR t ∧ v = .non ∧ bs = [false, false, false, false, true, true]) ∨ (¬ isBad t ∧ ¬ isNR t ∧ bs = [] ∧ ∃ r, v = .ref r ∧ H r = some (.lst ((outT t).map V.int)))
def sp_tried : Sp := fun vs H Q _ => ∃ t : Str, vs = [.str t] ∧ t.length ≤ 100000 ∧ ∀ (r k : Addr) (H' : Hp) (v : V) (bs : List Bool), Same H H' → H' r = some (.tup [v, .ref k]) → H' k = some (.lst (bs.map V.bl)) → TriedAt t v bs H' → Q (.ref r) H'
theorem sc_law_tried : FnScope ["text", "found", "kinds", "e"] ["text"] (defScope s_law_tried) := ⟨rfl, rfl, rfl, by decide +kernel, rfl, by decide +kernel, by decide +kernel⟩
set_option maxHeartbeats 4000000 in
theorem cal_law_tried {S C1 C2 C3 C4 C5 : Addr} (D : Def K mg "_law_tried" s_law_tried) (m_ShareError : mg "ShareError" = some (.ref S)) (R_BadText : Raised K S C1 C2 C3 C4 C5 C4 false false false true false) (R_NotRising : Raised K S C1 C2 C3 C4 C5 C5 false false false false true)
    (c_read : Cal P w K mg base (CXE P w) "read" ["text"] 3 (spE_read K C4 C5)) (c_law_kind : CalN P w K mg base "_law_kind" ["e"] 1 (sp_kind K S C1 C2 C3 C4 C5)) : Cal P w K mg base CX0 "_law_tried" ["text"] 4 sp_tried := by
  refine D.cal sc_law_tried (fun _ _ _ _ _ _ us hl => match us, hl with | [_], _ => rfl) (fun vs H Q E h => ?_) (fun f cdv A outer s H vs Q E hr h => ?_)
  · obtain ⟨t, rfl, _⟩ := h
    rfl
  obtain ⟨t, rfl, tl, q⟩ := h
  refine ⟨_, (pss_cons (ps_set (i := 1) sc_law_tried.nd rfl (Or.inl rfl) pe_non)
    (pss_cons (ps_set (i := 2) sc_law_tried.nd rfl (Or.inl rfl) (pe_lst pa_nil))
    (pss_cons (ps_try (i := 1) (m := 3) c_read hr sc_law_tried.nd rfl (Or.inl rfl) rfl rfl (pa_cons (pv 0) pa_nil) m_ShareError (fun x E' => (pss_one (ps_set (i := 2) sc_law_tried.nd rfl (Or.inl rfl) (pe_calN c_law_kind (hr.toN _) (pa_cons (pv 3) pa_nil))))))
    (pss_one (ps_ret (pe_tup (pa_cons (pv 1) (pa_cons (pv 2) pa_nil)))))))), ?_⟩
  refine ⟨(by decide : 0 ≤ sizeLine), fun l hl => ?_⟩
  have g0 : Same H (upd H l (.lst [])) := Same.new hl _
  have good : ∀ (r : Addr) (H' : Hp), Same (upd H l (.lst [])) H' → H' r = some (.lst ((outT t).map V.int)) → ¬ isBad t → ¬ isNR t → tRet (tTup (tCons (tVar 1) (tCons (tVar 2) tNil))) { nx := fun x H' => Q V.non H', rt := Q } [some (.str t), some (.ref r), some (.ref l), none] H' := fun r H' g e nb nn => by
    refine ⟨_, rfl, _, rfl, (by decide : 2 ≤ sizeLine), fun r3 hr3 => ?_⟩
    have g2 := Same.new hr3 (.tup [.ref r, .ref l])
    exact q r3 l _ (.ref r) [] (g0.trans (g.trans g2)) upd_same (g2 _ _ (g _ _ upd_same)) (.inr (.inr ⟨nb, nn, rfl, r, rfl, g2 _ _ e⟩))
  refine ⟨fun C _ H' => Same (upd H l (.lst [])) H' ∧ ((C = .ref C4 ∧ isBad t) ∨ (C = .ref C5 ∧ ¬ isBad t ∧ isNR t)), ?_, fun C H2 hE => ?_⟩
  · refine ⟨_, rfl, t, rfl, tl, fun e r H' _ g er => ?_, fun n b H' g => ⟨g, .inl ⟨rfl, n, b⟩⟩, fun n a p H' g => ⟨g, .inr ⟨rfl, not_bad a, n, a, p⟩⟩, fun n a p r H' _ g er => ?_⟩
    · refine good r H' g ?_ (zero_not e).1 (zero_not e).2
      unfold outT
      rw [if_pos e]
      exact er
    · refine good r H' g ?_ (not_bad a) (fun z => z.2.2 p)
      unfold outT
      rw [if_neg n]
      exact er
  · obtain ⟨g, hE⟩ := hE
    rcases hE with ⟨rfl, w⟩ | ⟨rfl, w1, w2⟩
    · refine ⟨C4, rfl, R_BadText.exm, fun x hx => ?_⟩
      have gx := Same.new hx (ExcO x C4)
      refine ⟨_, rfl, x, C4, _, _, _, _, _, rfl, upd_same, R_BadText, fun r H' hr' g2 e2 => ?_⟩
      refine ⟨_, rfl, _, rfl, (by decide : 2 ≤ sizeLine), fun r3 hr3 => ?_⟩
      have g3 := Same.new hr3 (.tup [.non, .ref r])
      exact q r3 r _ .non _ (g0.trans (g.trans (gx.trans (g2.trans g3)))) upd_same (g3 _ _ e2) (.inl ⟨w, rfl, rfl⟩)
    · refine ⟨C5, rfl, R_NotRising.exm, fun x hx => ?_⟩
      have gx := Same.new hx (ExcO x C5)
      refine ⟨_, rfl, x, C5, _, _, _, _, _, rfl, upd_same, R_NotRising, fun r H' hr' g2 e2 => ?_⟩
      refine ⟨_, rfl, _, rfl, (by decide : 2 ≤ sizeLine), fun r3 hr3 => ?_⟩
      have g3 := Same.new hr3 (.tup [.non, .ref r])
      exact q r3 r _ .non _ (g0.trans (g.trans (gx.trans (g2.trans g3)))) upd_same (g3 _ _ e2) (.inr (.inl ⟨w1, w2, rfl, rfl⟩))
theorem sorted_unlike {xs ms : List Int} (hp : ms.Perm (unlike xs)) (hs : ms.Pairwise (· ≤ ·)) : xs = ms ↔ xs.Pairwise (· < ·) := by
  constructor
  · rintro rfl
    have nd : xs.Pairwise (· ≠ ·) := hp.nodup_iff.mpr (unlike_nodup xs)
    exact (hs.and nd).imp fun h => by have := h.1; have := h.2; omega
  · intro w
    have nd : xs.Nodup := w.imp fun h => by omega
    have le : xs.Pairwise (· ≤ ·) := w.imp fun h => by omega
    have p : (unlike xs).Perm xs := (List.perm_ext_iff_of_nodup (unlike_nodup xs) nd).2 (unlike_mem xs)
    exact (PySem.W.ksm_same (hp.trans p) hs le).symm
theorem cut2_list (z : Str) : (cut2 z).cps.toList = z.cps.toList.drop 2 := rfl
theorem good_iff (z : Str) : goodP z = true ↔ z.cps.toList.take 2 = [49, 47] ∧ z.cps.toList.drop 2 ≠ [] ∧ z.length ≤ 402 ∧ (z.cps.toList.drop 2).head? ≠ some 48 ∧ (z.cps.toList.drop 2).all isDig = true := by
  have hl : z.cps.toList.length = z.length := by simp [Str.length]
  have hc : (cut2 z).length = z.length - 2 := by
    have : (cut2 z).length = (z.cps.toList.drop 2).length := by simp [cut2, Str.length]
    rw [this, List.length_drop, hl]
  unfold goodP isNum
  rw [starts_iff, cut2_list, Bool.and_eq_true, Bool.and_eq_true, decide_eq_true_eq, decide_eq_true_eq, hc]
  have two : z.cps.toList.take 2 = [49, 47] → 2 ≤ z.length := fun h => by
    have e := congrArg List.length h
    rw [List.length_take] at e
    have : min 2 z.cps.toList.length = 2 := e
    omega
  have nil : z.cps.toList.drop 2 = [] ↔ z.length ≤ 2 := by rw [List.drop_eq_nil_iff, hl]
  constructor
  · rintro ⟨h1, ⟨h2, h3, h4⟩, h5⟩
    exact ⟨h1, fun e => by have := nil.mp e; omega, by omega, h4, h5⟩
  · rintro ⟨h1, h2, h3, h4, h5⟩
    have := two h1
    exact ⟨h1, ⟨fun e => h2 (nil.mpr (by omega)), by omega, h4⟩, h5⟩
def badS : Str := Str.ofString "bad"
def nrS : Str := Str.ofString "not rising"
def noS : Str := Str.ofString ""
def DueAt (t : Str) (v : V) (z : Str) (H : Hp) : Prop := (isBad t ∧ v = .non ∧ z = badS) ∨ (¬ isBad t ∧ isNR t ∧ v = .non ∧ z = nrS) ∨ (¬ isBad t ∧ ¬ isNR t ∧ z = noS ∧ ∃ r, v = .ref r ∧ H r = some (.lst ((outT t).map V.int)))
def sp_due : Sp := fun vs H Q _ => ∃ t : Str, vs = [.str t] ∧ t.length ≤ 100000 ∧ Us.cnt t ≤ 50 ∧ ∀ (p : Addr) (H' : Hp) (v : V) (z : Str), Same H H' → H' p = some (.tup [v, .str z]) → DueAt t v z H' → Q (.ref p) H'
def mDue (t : Str) (H : Hp) : TS := fun D σ H' => (∀ (p : Addr) (H' : Hp) (v : V) (z : Str), Same H H' → H' p = some (.tup [v, .str z]) → DueAt t v z H' → D.rt (.ref p) H') ∧ t ≠ zeroT ∧ (∀ p ∈ Txt.split t Us.SEP, goodP p = true) ∧ Same H H' ∧ ∃ (l : Addr) (x2 x3 : Option V), H' l = some (.lst ((vals (Txt.split t Us.SEP)).map V.int)) ∧ σ = [some (.str t), some (.ref l), x2, x3]
theorem sc_law_due : FnScope ["text", "shares", "word", "sign"] ["text"] (defScope s_law_due) := ⟨rfl, rfl, rfl, by decide +kernel, rfl, by decide +kernel, by decide +kernel⟩
set_option maxHeartbeats 4000000 in
theorem cal_law_due (D : Def K mg "_law_due" s_law_due) (z_len : mg "len" = none) (z_int : mg "int" = none) (z_sorted : mg "sorted" = none) (z_set : mg "set" = none) : Cal P w K mg base CX0 "_law_due" ["text"] 1 sp_due := by
  refine D.cal sc_law_due (fun _ _ _ _ _ _ us hl => match us, hl with | [_], _ => rfl) (fun vs H Q E h => ?_) (fun f cdv A outer s H vs Q E hr h => ?_)
  · obtain ⟨t, rfl, _⟩ := h
    rfl
  obtain ⟨t, rfl, tl, tc, q⟩ := h
  have hu := hr.units
  have sz : sizeLine = 16777216 := sizeLine_eq
  have few := Us.parts_few t
  refine ⟨_, (pss_cons (ps_if (pt_cmpR op_eq (pv 0) pe_str (nomark _))
      (pss_one (ps_ret (pe_tup (pa_cons (pe_lst pa_nil) (pa_cons pe_str pa_nil)))))
      pss_nil)
    (pss_cons (ps_set (i := 1) sc_law_due.nd rfl (Or.inl rfl) (pe_lst pa_nil))
    (pss_cons (ps_for PassesOwn.never rfl (pi_list (pe_bm PySem.F.plainAttrs_str PySem.F.slot_str_split PySem.F.type_str_split mt_split (pv 0) (pa_cons pe_str pa_nil))) (pg_name (i := 2) sc_law_due.nd rfl (Or.inl rfl))
      (pss_cons (ps_if (pw_or (pt_cmpR op_ne (pe_slice sl_str (pv 2) po_none (po_some pe_int)) pe_str (nomark _)) (pw_or (pt_cmpR op_eq (pe_slice sl_str (pv 2) (po_some pe_int) po_none) pe_str (nomark _)) (pw_or (pt_cmpR op_gt (pe_callB call_len (by rfl) z_len PySem.boot_len (pa_cons (pv 2) pa_nil)) pe_int (nomark _)) (pw_or1 (pt_cmpR op_eq (pe_ix ix_str (pv 2) pe_int (fun _ _ => rfl)) pe_str (nomark _)))))).pt
          (pss_one (ps_ret (pe_tup (pa_cons pe_non (pa_cons pe_str pa_nil)))))
          pss_nil)
        (pss_cons (ps_for PassesOwn.never rfl (pi_str (pe_slice sl_str (pv 2) (po_some pe_int) po_none)) (pg_name (i := 3) sc_law_due.nd rfl (Or.inl rfl))
          (pss_one (ps_if (pt_cmpR op_notIn_str (pv 3) pe_str (by rfl))
              (pss_one (ps_ret (pe_tup (pa_cons pe_non (pa_cons pe_str pa_nil)))))
              pss_nil)))
        (pss_one (ps_expr (pe_bm PySem.F.plainAttrs_list PySem.F.slot_list_append PySem.F.type_list_append mt_append (pv 1) (pa_cons (pe_callTy call_intS (by rfl) z_int PyProof.Rows.boot_int (pa_cons (pe_slice sl_str (pv 2) (po_some pe_int) po_none) pa_nil)) pa_nil)))))))
    (PSs.imp (t' := (mDue t H))
    (pss_cons (ps_if (pt_cmpR (op_neD hu) (pv 1) (pe_callB (call_sortedS rfl) (by rfl) z_sorted PyProof.Rows.boot_sorted (pa_cons (pe_callTy (call_set rfl) (by rfl) z_set PyProof.Rows.boot_set (pa_cons (pv 1) pa_nil)) pa_nil)) (nomark _))
      (pss_one (ps_ret (pe_tup (pa_cons pe_non (pa_cons pe_str pa_nil)))))
      pss_nil)
    (pss_one (ps_ret (pe_tup (pa_cons (pv 1) (pa_cons pe_str pa_nil)))))) ?m1)))), ?_⟩
  case m1 =>
    rintro D σ H' ⟨q, n0, good, g, l, x2, x3, el, rfl⟩
    have ho : outT t = vals (Txt.split t Us.SEP) := if_neg n0
    have nr : isNR t ↔ ¬ (vals (Txt.split t Us.SEP)).Pairwise (· < ·) := ⟨fun h => h.2.2, fun h => ⟨n0, good, h⟩⟩
    have hlen : (vals (Txt.split t Us.SEP)).length ≤ 51 := by unfold vals; rw [List.length_map]; omega
    generalize vals (Txt.split t Us.SEP) = xs at *
    refine ⟨_, rfl, _, rfl, l, xs, rfl, SqL.of el, by omega, fun as has => ?_⟩
    refine ⟨as, unlike xs, rfl, upd_same, by have := unlike_len xs; omega, fun ls ms hls hp hs => ?_⟩
    have g6 := Same.new has (SetO P w as (unlike xs))
    have g7 := Same.new hls (.lst (ms.map V.int))
    have el7 := g7 _ _ (g6 _ _ el)
    have gA := g.trans (g6.trans g7)
    refine ⟨_, _, .lst (SqL.of el7) (dvs_ints xs), .lst (SqL.of upd_same) (dvs_ints ms), shaped_ints _, shaped_ints _, _, rfl, ?_⟩
    rw [eqv_ints]
    have su := sorted_unlike hp hs
    refine ite2 (fun z => ?_) (fun z => ?_)
    · have ne : xs ≠ ms := fun e => by rw [decide_eq_true e] at z; cases z
      refine ⟨(by decide : 2 ≤ sizeLine), fun p hp2 => ?_⟩
      have g8 := Same.new hp2 (.tup [.non, .str nrS])
      exact q p _ .non nrS (gA.trans g8) upd_same (.inr (.inl ⟨not_bad good, nr.2 (fun h => ne (su.2 h)), rfl, rfl⟩))
    · have e : xs = ms := Classical.byContradiction fun n => z (by rw [decide_eq_false n]; rfl)
      refine ⟨_, rfl, (by decide : 2 ≤ sizeLine), fun p hp2 => ?_⟩
      have g8 := Same.new hp2 (.tup [.ref l, .str noS])
      refine q p _ (.ref l) noS (gA.trans g8) upd_same (.inr (.inr ⟨not_bad good, fun h => nr.1 h (su.1 e), rfl, l, rfl, ?_⟩))
      rw [ho]
      exact g8 _ _ el7
  refine ⟨_, rfl, rfl, _, rfl, ?_⟩
  refine ite2 (fun c => ?_) (fun c => ?_)
  · have e : t = zeroT := V.str.inj (of_decide_eq_true c)
    refine ⟨(by decide : 0 ≤ sizeLine), fun l hl => ⟨(by decide : 2 ≤ sizeLine), fun p hp => ?_⟩⟩
    have g1 := Same.new hl (.lst [])
    have g2 := Same.new hp (.tup [.ref l, .str noS])
    refine q p _ (.ref l) noS (g1.trans g2) upd_same (.inr (.inr ⟨(zero_not e).1, (zero_not e).2, rfl, l, rfl, ?_⟩))
    unfold outT
    rw [if_pos e]
    exact g2 _ _ upd_same
  have c' : t ≠ zeroT := fun e => c (decide_eq_true (by rw [e]; rfl))
  have pl : ∀ p ∈ Txt.split t Us.SEP, p.length ≤ 100000 := fun p hp => Nat.le_trans (part_len hp) (by omega)
  refine ⟨(by decide : 0 ≤ sizeLine), fun l1 hl1 => ?_⟩
  have g1 := Same.new hl1 (.lst [])
  have e1 : upd H l1 (.lst []) l1 = some (.lst []) := upd_same
  generalize upd H l1 (.lst []) = H1 at *
  refine ⟨_, rfl, rfl, _, _, rfl, rfl, by decide +kernel, by omega, fun l0 hl0 => ?_⟩
  have eq0 : Txt.split t (Str.ofString " + ") = Txt.split t Us.SEP := rfl
  rw [eq0]
  have ex : ∀ p ∈ Txt.split t Us.SEP, goodP p = false → isBad t := fun p hp h => ⟨c', p, hp, h⟩
  have g0 := Same.new hl0 (.lst ((Txt.split t Us.SEP).map V.str))
  have e0 : upd H1 l0 (.lst ((Txt.split t Us.SEP).map V.str)) l0 = some (.lst ((Txt.split t Us.SEP).map V.str)) := upd_same
  have e1' := g0 _ _ e1
  have gS := g1.trans g0
  have n01 : l0 ≠ l1 := fun z => by rw [z, e1] at hl0; cases hl0
  generalize upd H1 l0 (.lst ((Txt.split t Us.SEP).map V.str)) = H2 at *
  refine ⟨l0, rfl, ⟨_, SqL.of e0⟩, for_list (xs := (Txt.split t Us.SEP).map V.str) (fun i σ' H' => Same H H' ∧ H' l0 = some (.lst ((Txt.split t Us.SEP).map V.str)) ∧ H' l1 = some (.lst ((vals ((Txt.split t Us.SEP).take i)).map V.int)) ∧ (∀ p ∈ (Txt.split t Us.SEP).take i, goodP p = true) ∧ ∃ x2 x3, σ' = [some (.str t), some (.ref l1), x2, x3])
    ⟨gS, e0, e1', fun _ h => (by rw [List.take_zero] at h; cases h), none, none, rfl⟩ (fun i σ' H' _ h => SqL.of h.2.1) (fun i x σ' H' hi h => ?_) (fun σ' H' h => ?_)⟩
  · obtain ⟨g, el0, el1, good, x2, x3, rfl⟩ := h
    rw [List.getElem?_map] at hi
    cases hz : (Txt.split t Us.SEP)[i]? with
    | none => rw [hz] at hi; cases hi
    | some z =>
      rw [hz] at hi
      obtain rfl : V.str z = x := Option.some.inj hi
      have hm : z ∈ Txt.split t Us.SEP := List.mem_of_getElem? hz
      have zl := pl z hm
      have zs : z.length ≤ sizeLine := by omega
      have gi := good_iff z
      have bad : goodP z = false → ∀ (y3 : Option V) (D' : Ends), D'.rt = Q → tRet (tTup (tCons (tC .non) (tCons (tC (.str badS)) tNil))) D' [some (.str t), some (.ref l1), some (.str z), y3] H' := fun hb y3 D' hD => by
        refine ⟨(by decide : 2 ≤ sizeLine), fun p hp2 => ?_⟩
        have g8 := Same.new hp2 (.tup [.non, .str badS])
        rw [hD]
        exact q p _ .non badS (g.trans g8) upd_same (.inl ⟨ex z hm hb, rfl, rfl⟩)
      refine ⟨_, rfl, _, rfl, z, rfl, zs, rfl, _, rfl, ?_⟩
      rw [show Txt.slice z none (some 2) = ⟨(z.cps.toList.take 2).toArray⟩ from cut_to2 z]
      have l12 : (Str.ofString "1/").cps.toList = [49, 47] := by decide +kernel
      have l00 : (Str.ofString "").cps.toList = [] := by decide +kernel
      have l48 : (Str.ofString "0").cps.toList = [48] := by decide +kernel
      have hl : z.cps.toList.length = z.length := by simp [Str.length]
      by_cases h1 : z.cps.toList.take 2 = [49, 47]
      · have e1 : (⟨(z.cps.toList.take 2).toArray⟩ : Str) = Str.ofString "1/" := Us.str_back (by rw [l12]; exact h1)
        rw [e1]
        refine iteNS rfl ?_
        refine ⟨_, rfl, _, rfl, z, rfl, zs, rfl, _, rfl, ?_⟩
        rw [show Txt.slice z (some 2) none = cut2 z from cut_from2 z]
        by_cases h2 : z.cps.toList.drop 2 = []
        · have e2 : cut2 z = Str.ofString "" := Us.str_back (by rw [l00]; exact h2)
          rw [e2]
          refine iteDT rfl (iteT ?_)
          exact bad (Bool.eq_false_iff.mpr fun h => (gi.1 h).2.1 h2) _ _ rfl
        · refine iteDF (fun h => h2 (by rw [← cut2_list, V.str.inj h, l00])) ?_
          refine ⟨_, rfl, _, z.length, rfl, ⟨zs, rfl⟩, _, _, rfl, rfl, _, rfl, ?_⟩
          by_cases h3 : (402 : Int) < z.length
          · rw [decide_eq_true h3]
            refine iteT (iteT ?_)
            exact bad (Bool.eq_false_iff.mpr fun h => by have := (gi.1 h).2.2.1; omega) _ _ rfl
          · rw [decide_eq_false h3]
            refine iteF ?_
            obtain ⟨c2, r2, hc2⟩ : ∃ c r, z.cps.toList.drop 2 = c :: r := by
              cases e : z.cps.toList.drop 2 with
              | nil => exact absurd e h2
              | cons c r => exact ⟨c, r, rfl⟩
            have a2 : atI z.cps.toList 2 = some c2 := by
              refine atI_nat (j := 2) ?_
              have := congrArg (fun l : List Nat => l[0]?) hc2
              rw [List.getElem?_drop] at this
              exact this
            refine ⟨_, rfl, z, 2, c2, rfl, rfl, zs, a2, rfl, _, rfl, ?_⟩
            by_cases h4 : c2 = 48
            · refine iteDT (by rw [h4]; exact congrArg V.str (by decide +kernel)) ?_
              exact bad (Bool.eq_false_iff.mpr fun h => (gi.1 h).2.2.2.1 (by rw [hc2, h4]; rfl)) _ _ rfl
            · refine iteDF (fun h => h4 ?_) ?_
              · have e := congrArg (fun s : Str => s.cps.toList) (V.str.inj h)
                have e' : [c2] = (Str.ofString "0").cps.toList := e
                rw [l48] at e'
                injection e'
              · have ecut : Txt.slice z (some 2) none = cut2 z := cut_from2 z
                refine ⟨_, rfl, _, rfl, z, rfl, zs, ?_⟩
                rw [ecut]
                refine ⟨cut2 z, rfl, for_str (z := cut2 z) (fun j σ' H'' => H'' = H' ∧ (∀ c ∈ (cut2 z).cps.toList.take j, isDig c = true) ∧ ∃ y3, σ' = [some (.str t), some (.ref l1), some (.str z), y3]) ⟨rfl, fun _ h => (by rw [List.take_zero] at h; cases h), _, rfl⟩ (fun j ch σ' H'' hj h => ?_) (fun σ' H'' h => ?_)⟩
                · obtain ⟨rfl, digs, y3, rfl⟩ := h
                  refine ⟨_, rfl, _, _, rfl, rfl, _, rfl, ?_⟩
                  rw [dig_in]
                  cases hd : isDig ch with
                  | false =>
                    refine iteT ?_
                    exact bad (Bool.eq_false_iff.mpr fun h => by
                      have := List.all_eq_true.mp (gi.1 h).2.2.2.2 ch (List.mem_of_getElem? hj)
                      rw [hd] at this
                      cases this) _ _ rfl
                  | true =>
                    refine iteF ⟨rfl, fun c hc => ?_, _, rfl⟩
                    rw [List.take_add_one, hj] at hc
                    rcases List.mem_append.mp hc with hc | hc
                    · exact digs c hc
                    · rw [List.mem_singleton.mp hc]
                      exact hd
                · obtain ⟨rfl, digs, y3, rfl⟩ := h
                  have all : (z.cps.toList.drop 2).all isDig = true := List.all_eq_true.mpr fun c hc => digs c (by rw [List.take_of_length_le (by simp)]; exact hc)
                  have gz : goodP z = true := gi.2 ⟨h1, h2, by omega, by rw [hc2]; exact fun h => h4 (Option.some.inj h), all⟩
                  obtain ⟨v1, v2⟩ := val_of (z := z) (by
                    unfold goodP at gz
                    rw [Bool.and_eq_true] at gz
                    exact gz.2)
                  refine ⟨_, rfl, .inl ⟨rfl, _, SqL.of el1⟩, _, rfl, _, rfl, z, rfl, zs, ?_⟩
                  rw [ecut]
                  refine ⟨cut2 z, _, rfl, v1, v2, l1, _, _, rfl, rfl, el1, ?_, ?_⟩
                  · unfold vals
                    rw [List.length_map, List.length_map, List.length_take]
                    omega
                  · have et : (Txt.split t Us.SEP).take (i + 1) = (Txt.split t Us.SEP).take i ++ [z] := by rw [List.take_add_one, hz]; rfl
                    refine ⟨g.put hl1, ?_, ?_, fun p hp => ?_, _, _, rfl⟩
                    · rw [upd_ne n01]
                      exact el0
                    · rw [upd_same, et]
                      unfold vals
                      rw [List.map_append, List.map_append]
                      rfl
                    · rw [et] at hp
                      rcases List.mem_append.mp hp with hp | hp
                      · exact good p hp
                      · rw [List.mem_singleton.mp hp]
                        exact gz
      · refine ite2 (fun _ => ?_) (fun h => ?_)
        · refine iteT ?_
          exact bad (Bool.eq_false_iff.mpr fun h => h1 (gi.1 h).1) _ _ rfl
        · exfalso
          have e : (⟨(z.cps.toList.take 2).toArray⟩ : Str) = Str.ofString "1/" := Classical.byContradiction fun n => h (by rw [decide_eq_false (fun w => n (V.str.inj w))]; rfl)
          have e2 := congrArg (fun s : Str => s.cps.toList) e
          exact h1 (e2.trans l12)
  · obtain ⟨g, el0, el1, good, x2, x3, rfl⟩ := h
    rw [List.length_map, List.take_length] at el1 good
    exact ⟨q, c', good, g, l1, x2, x3, el1, rfl⟩
def oddA : List Str := [Str.ofString "", Str.ofString "0", Str.ofString "1", Str.ofString "1/", Str.ofString "1/0", Str.ofString "1/01", Str.ofString "2/3", Str.ofString "1/-2", Str.ofString "1/+2", Str.ofString "1/1_0", Str.ofString "1/ 2", Str.ofString " 1/2", Str.ofString "1/2 ", Str.ofString "1/x", Str.ofString "1/2\n"]
def oddB : List Str := [Str.ofString "01/2", Str.ofString "1 /2", Str.ofString "+1/2"]
def sp_odd : Sp := fun vs H Q _ => ∃ c : Int, vs = [.int c] ∧ ∀ (z : Str) (H' : Hp), z.length ≤ 500 → Us.cnt z ≤ 2 → Same H H' → Q (.str z) H'
theorem sc_law_odd : FnScope ["cell", "some"] ["cell"] (defScope s_law_odd) := ⟨rfl, rfl, rfl, by decide +kernel, rfl, by decide +kernel, by decide +kernel⟩
set_option maxHeartbeats 4000000 in
theorem cal_law_odd (D : Def K mg "_law_odd" s_law_odd) : Cal P w K mg base CX0 "_law_odd" ["cell"] 1 sp_odd := by
  refine D.cal sc_law_odd (fun _ _ _ _ _ _ us hl => match us, hl with | [_], _ => rfl) (fun vs H Q E h => ?_) (fun f cdv A outer s H vs Q E hr h => ?_)
  · obtain ⟨c, rfl, _⟩ := h
    rfl
  obtain ⟨c, rfl, q⟩ := h
  refine hideO (zs := oddA) (zs2 := oddB) (by kernel_rfl) (by kernel_rfl) (by kernel_rfl) (by kernel_rfl) fun es es2 hes hes2 hsw hsw2 => ?_
  refine ⟨_, (pss_cons (ps_set (i := 1) sc_law_odd.nd rfl (Or.inl rfl) (pe_strsL oddA hes) (hs := hsw))
    (pss_cons (ps_set (i := 1) sc_law_odd.nd rfl (Or.inl rfl) (pe_op op_cat (pv 1) (pe_lst (pa_cons pe_str (pa_cons pe_str (pa_cons (pe_op op_add_str pe_str (pe_op op_mulS pe_str pe_int)) (pa_cons (pe_op op_add_str pe_str (pe_op op_mulS pe_str pe_int)) (pa_strsL oddB hes2))))))) (hs := hsw2))
    (pss_one (ps_ret (pe_ix ix_list (pv 1) (pe_op op_mod (pv 0) pe_int) (fun _ _ => rfl)))))), ?_⟩
  refine ⟨(by decide : 15 ≤ sizeLine), fun l hl => ?_⟩
  have oy : ∀ y ∈ oddA, y.length ≤ 500 ∧ Us.cnt y ≤ 2 := by decide +kernel
  have ly : oddA.length = 15 := rfl
  dsimp only
  generalize oddA = ys at *
  have g1 := Same.new hl (.lst (ys.map V.str))
  have e1 : upd H l (.lst (ys.map V.str)) l = some (.lst (ys.map V.str)) := upd_same
  generalize upd H l (.lst (ys.map V.str)) = H1 at *
  refine ⟨_, rfl, _, _, rfl, rfl, by decide, by decide, by decide +kernel, by decide +kernel, _, _, rfl, rfl, by decide +kernel, _, _, rfl, rfl, by decide, by decide, by decide +kernel, by decide +kernel, _, _, rfl, rfl, by decide +kernel, (by decide : 7 ≤ sizeLine), fun l2 hl2 => ?_⟩
  obtain ⟨zs, hz⟩ : ∃ zs : List Str, zs = Str.ofString "1//2" :: Str.ofString "1/2/3" :: (Str.ofString "1/" ++ repS (Str.ofString "9") (400 : Int).toNat) :: (Str.ofString "1/" ++ repS (Str.ofString "9") (401 : Int).toNat) :: oddB := ⟨_, rfl⟩
  have oz : ∀ y ∈ zs, y.length ≤ 500 ∧ Us.cnt y ≤ 2 := by rw [hz]; decide +kernel
  have lz : zs.length = 7 := by rw [hz]; rfl
  have ez : V.str (Str.ofString "1//2") :: V.str (Str.ofString "1/2/3") :: V.str (Str.ofString "1/" ++ repS (Str.ofString "9") (400 : Int).toNat) :: V.str (Str.ofString "1/" ++ repS (Str.ofString "9") (401 : Int).toNat) :: oddB.map V.str = zs.map V.str := by rw [hz]; rfl
  dsimp only
  rw [ez]
  clear ez hz
  have g2 := Same.new hl2 (.lst (zs.map V.str))
  have e2 : upd H1 l2 (.lst (zs.map V.str)) l2 = some (.lst (zs.map V.str)) := upd_same
  have e1' := g2 _ _ e1
  generalize upd H1 l2 (.lst (zs.map V.str)) = H2 at *
  refine ⟨l, l2, _, _, rfl, rfl, e1', e2, by rw [List.length_map, List.length_map, ly, lz]; decide, fun l3 hl3 => ?_⟩
  rw [← List.map_append]
  have g3 := Same.new hl3 (.lst ((ys ++ zs).map V.str))
  have e3 : upd H2 l3 (.lst ((ys ++ zs).map V.str)) l3 = some (.lst ((ys ++ zs).map V.str)) := upd_same
  generalize upd H2 l3 (.lst ((ys ++ zs).map V.str)) = H3 at *
  have c0 := Int.emod_nonneg c (show (22 : Int) ≠ 0 by decide)
  have c1 := Int.emod_lt_of_pos c (show (0 : Int) < 22 by decide)
  have lA : (ys ++ zs).length = 22 := by rw [List.length_append, ly, lz]
  obtain ⟨k, hk⟩ := Int.eq_ofNat_of_zero_le c0
  obtain ⟨y, hy⟩ : ∃ y, (ys ++ zs)[k]? = some y := ⟨_, List.getElem?_eq_getElem (by omega)⟩
  have ix : atI ((ys ++ zs).map V.str) (c % 22) = some (.str y) := by
    rw [hk]
    refine atI_nat ?_
    rw [List.getElem?_map, hy]
    rfl
  refine ⟨_, rfl, _, rfl, _, _, rfl, rfl, (by decide : (0 : Int) < 22), l3, _, _, _, rfl, rfl, SqL.of e3, ix, ?_⟩
  have oy2 : y.length ≤ 500 ∧ Us.cnt y ≤ 2 := by
    rcases List.mem_append.mp (List.mem_of_getElem? hy) with h | h
    · exact oy y h
    · exact oz y h
  exact q y _ oy2.1 oy2.2 (g1.trans (g2.trans g3))
def OkW (N : Nat) (ys : List Str) : Prop := ys.length ≤ N ∧ ∀ y ∈ ys, y.length ≤ 500 ∧ Us.cnt y ≤ 2
theorem join_ok {N : Nat} {ys : List Str} {sep : Str} (h : OkW N ys) (hs : sep.length ≤ 3) (hc : Us.cnt sep ≤ 1) : (ys.map (·.length)).sum + ys.length * sep.length ≤ N * 503 ∧ (Str.join sep ys).length ≤ N * 503 ∧ Us.cnt (Str.join sep ys) ≤ N * 3 := by
  obtain ⟨h1, h2⟩ := h
  have a := StrLaws.sumLen_le (B := 500) ys fun y hy => (h2 y hy).1
  have m : ys.length * sep.length ≤ N * 3 := Nat.mul_le_mul h1 hs
  have b := StrLaws.join_length_le sep ys
  have c := Us.cnt_join sep ys
  have m2 : ys.length * Us.cnt sep ≤ N * 1 := Nat.mul_le_mul h1 hc
  have d : ∀ (zs : List Str), (∀ y ∈ zs, Us.cnt y ≤ 2) → (zs.map Us.cnt).sum ≤ zs.length * 2 := fun zs => by
    induction zs with
    | nil => intro _; exact Nat.zero_le _
    | cons y r ih =>
      intro hy
      have := ih fun z hz => hy z (List.mem_cons_of_mem _ hz)
      have := hy y (List.mem_cons_self ..)
      rw [List.map_cons, List.sum_cons, List.length_cons]
      omega
  have e := d ys fun y hy => (h2 y hy).2
  omega
theorem cut_map (ws : List Str) (lo hi : Option Int) : ∃ us : List Str, cutV (ws.map V.str) lo hi = us.map V.str ∧ us.length ≤ ws.length ∧ ∀ u ∈ us, u ∈ ws := by
  refine ⟨(ws.drop (HT.sIx (ws.map V.str).length 0 lo)).take (HT.sIx (ws.map V.str).length (ws.map V.str).length hi - HT.sIx (ws.map V.str).length 0 lo), ?_, ?_, fun u hu => List.mem_of_mem_drop (List.mem_of_mem_take hu)⟩
  · unfold cutV
    rw [List.map_take, List.map_drop]
  · rw [List.length_take, List.length_drop]
    omega
theorem pick_str {ys : List Str} {n c : Int} (hn : 0 < n) (hl : (ys.length : Int) = n) : ∃ y ∈ ys, atI (ys.map V.str) (c % n) = some (.str y) := by
  have c0 := Int.emod_nonneg c (show n ≠ 0 by omega)
  have c1 := Int.emod_lt_of_pos c hn
  obtain ⟨k, hk⟩ := Int.eq_ofNat_of_zero_le c0
  obtain ⟨y, hy⟩ : ∃ y, ys[k]? = some y := ⟨_, List.getElem?_eq_getElem (by omega)⟩
  refine ⟨y, List.mem_of_getElem? hy, ?_⟩
  rw [hk]
  refine atI_nat ?_
  rw [List.getElem?_map, hy]
  rfl
def oddC : List Str := [Str.ofString "", Str.ofString "0 ", Str.ofString " 0", Str.ofString "00", Str.ofString "1/2 +", Str.ofString "+ 1/2", Str.ofString "1/2+1/3", Str.ofString "1/2  + 1/3"]
def sp_turned (K : PySem.W.Frag) : Sp := fun vs H Q _ => ∃ (p : Addr) (ws : List Str) (c : Int), vs = [.ref p, .int c] ∧ SqL K H p (ws.map V.str) ∧ ws.length ≤ 6 ∧ (∀ y ∈ ws, y.length ≤ 500 ∧ Us.cnt y ≤ 2) ∧ ∀ (z : Str) (H' : Hp), z.length ≤ 10000 → Us.cnt z ≤ 50 → Same H H' → Q (.str z) H'
theorem sc_law_turned : FnScope ["words", "cell", "at", "odd", "mode"] ["words", "cell"] (defScope s_law_turned) := ⟨rfl, rfl, rfl, by decide +kernel, rfl, by decide +kernel, by decide +kernel⟩
set_option maxHeartbeats 4000000 in
theorem cal_law_turned (D : Def K mg "_law_turned" s_law_turned) (z_len : mg "len" = none) (c_law_odd : Cal P w K mg base CX0 "_law_odd" ["cell"] 1 sp_odd) : Cal P w K mg base CX0 "_law_turned" ["words", "cell"] 2 (sp_turned K) := by
  refine D.cal sc_law_turned (fun _ _ _ _ _ _ us hl => match us, hl with | [_, _], _ => rfl) (fun vs H Q E h => ?_) (fun f cdv A outer s H vs Q E hr h => ?_)
  · obtain ⟨p, ws, c, rfl, _⟩ := h
    rfl
  obtain ⟨p, ws, c, rfl, hS, w6, hw, q⟩ := h
  have sz : sizeLine = 16777216 := sizeLine_eq
  refine hideT (zs := oddC) (by kernel_rfl) fun es hes => ?_
  refine ⟨_, (pss_cons (ps_set (i := 2) sc_law_turned.nd rfl (Or.inl rfl) (pe_op op_mod (pv 1) (pe_op op_add (pe_callB call_len_seq (by rfl) z_len PySem.boot_len (pa_cons (pv 0) pa_nil)) pe_int)))
    (pss_cons (ps_set (i := 3) sc_law_turned.nd rfl (Or.inl rfl) (pe_cal c_law_odd hr pass0 (pa_cons (pe_op op_fdivB (pv 1) pe_int) pa_nil)))
    (pss_cons (ps_set (i := 4) sc_law_turned.nd rfl (Or.inl rfl) (pe_op op_mod (pe_op op_fdivB (pv 1) pe_int) pe_int))
    (pss_cons (ps_if (pt_cmpR op_eq (pv 4) pe_int (nomark _))
      (pss_one (ps_ret (pe_bm PySem.F.plainAttrs_str PySem.F.slot_str_join PySem.F.type_str_join mt_join pe_str (pa_cons (pe_op op_cat (pe_op op_cat (pe_slice sl_list (pv 0) po_none (po_some (pv 2))) (pe_lst (pa_cons (pv 3) pa_nil))) (pe_slice sl_list (pv 0) (po_some (pv 2)) po_none)) pa_nil))))
      pss_nil)
    (pss_cons (ps_if (pt_cmpR op_eq (pv 4) pe_int (nomark _))
      (pss_one (ps_ret (pe_bm PySem.F.plainAttrs_str PySem.F.slot_str_join PySem.F.type_str_join mt_join pe_str (pa_cons (pe_op op_cat (pe_op op_cat (pe_slice sl_list (pv 0) po_none (po_some (pv 2))) (pe_lst (pa_cons (pv 3) pa_nil))) (pe_slice sl_list (pv 0) (po_some (pe_op op_add (pv 2) pe_int)) po_none)) pa_nil))))
      pss_nil)
    (pss_cons (ps_if (pt_cmpR op_eq (pv 4) pe_int (nomark _))
      (pss_one (ps_ret (pe_op op_add_str (pe_op op_add_str (pe_bm PySem.F.plainAttrs_str PySem.F.slot_str_join PySem.F.type_str_join mt_join (pe_ix ix_list (pe_strsL [Str.ofString "+", Str.ofString " ", Str.ofString " + "] (by kernel_rfl)) (pe_op op_mod (pe_op op_fdivB (pv 1) pe_int) pe_int) (fun _ _ => rfl)) (pa_cons (pe_slice sl_list (pv 0) po_none (po_some (pv 2))) pa_nil)) pe_str) (pe_bm PySem.F.plainAttrs_str PySem.F.slot_str_join PySem.F.type_str_join mt_join pe_str (pa_cons (pe_slice sl_list (pv 0) (po_some (pv 2)) po_none) pa_nil)))))
      pss_nil)
    (pss_cons (ps_if (pt_cmpR op_eq (pv 4) pe_int (nomark _))
      (pss_one (ps_ret (pe_ix ix_list (pe_strsL oddC hes) (pe_op op_mod (pe_op op_fdivB (pv 1) pe_int) pe_int) (fun _ _ => rfl))))
      pss_nil)
    (pss_one (ps_ret (pe_bm PySem.F.plainAttrs_str PySem.F.slot_str_join PySem.F.type_str_join mt_join pe_str (pa_cons (pv 0) pa_nil))))))))))), ?_⟩
  refine ⟨_, rfl, _, rfl, p, _, rfl, .inl hS, _, _, rfl, rfl, _, _, rfl, rfl, ?_, ?_⟩
  · rw [List.length_map]
    show (0 : Int) < _
    omega
  dsimp only
  generalize c % (((ws.map V.str).length : Int) + 1) = a at *
  refine ⟨_, rfl, _, _, rfl, rfl, CDivB.lit (by decide) (by decide), _, rfl, fun z H1 zl zc g1 => ?_⟩
  have hS1 := g1.seq hS
  have sepc : Us.cnt Us.SEP ≤ 1 := by decide +kernel
  refine ⟨_, rfl, _, _, rfl, rfl, CDivB.lit (by decide) (by decide), _, _, rfl, rfl, (by decide : (0 : Int) < 5), ?_⟩
  dsimp only
  generalize c / 154 % 5 = mode at *
  have insOk : ∀ us vs : List Str, us.length ≤ ws.length → (∀ u ∈ us, u ∈ ws) → vs.length ≤ ws.length → (∀ u ∈ vs, u ∈ ws) → OkW 13 ((us ++ [z]) ++ vs) := fun us vs ul um vl vm => ⟨by rw [List.length_append, List.length_append, List.length_singleton]; omega, fun y hy => by
    rcases List.mem_append.mp hy with h | h
    · rcases List.mem_append.mp h with h | h
      · exact hw y (um y h)
      · rw [List.mem_singleton.mp h]
        exact ⟨zl, zc⟩
    · exact hw y (vm y h)⟩
  refine ⟨_, rfl, rfl, _, rfl, ?_⟩
  refine ite2 (fun m => ?_) (fun m => ?_)
  · refine ⟨rfl, ?_⟩
    refine ⟨_, rfl, _, rfl, _, rfl, p, _, rfl, hS1, fun l1 hl1 => ?_⟩
    case _ =>
      obtain ⟨us, eu, ul, um⟩ := cut_map ws none (some a)
      rw [eu]
      have h1 := Same.new hl1 (.lst (us.map V.str))
      have f1 : upd H1 l1 (.lst (us.map V.str)) l1 = some (.lst (us.map V.str)) := upd_same
      generalize upd H1 l1 (.lst (us.map V.str)) = H2 at *
      refine ⟨_, rfl, (by decide : 1 ≤ sizeLine), fun l2 hl2 => ?_⟩
      have h2 := Same.new hl2 (.lst [.str z])
      have f2 : upd H2 l2 (.lst [.str z]) l2 = some (.lst ([z].map V.str)) := upd_same
      have f1' := h2 _ _ f1
      generalize upd H2 l2 (.lst [.str z]) = H3 at *
      refine ⟨l1, l2, _, _, rfl, rfl, f1', f2, by rw [List.length_map, List.length_map, List.length_singleton]; omega, fun l3 hl3 => ?_⟩
      rw [← List.map_append]
      have h3 := Same.new hl3 (.lst ((us ++ [z]).map V.str))
      have f3 : upd H3 l3 (.lst ((us ++ [z]).map V.str)) l3 = some (.lst ((us ++ [z]).map V.str)) := upd_same
      generalize upd H3 l3 (.lst ((us ++ [z]).map V.str)) = H4 at *
      have hS4 := h3.seq (h2.seq (h1.seq hS1))
      refine ⟨_, rfl, _, rfl, _, rfl, p, _, rfl, hS4, fun l4 hl4 => ?_⟩
      obtain ⟨vs, ev, vl, vm⟩ := cut_map ws (some a) none
      rw [ev]
      have h4 := Same.new hl4 (.lst (vs.map V.str))
      have f4 : upd H4 l4 (.lst (vs.map V.str)) l4 = some (.lst (vs.map V.str)) := upd_same
      have f3' := h4 _ _ f3
      generalize upd H4 l4 (.lst (vs.map V.str)) = H5 at *
      refine ⟨l3, l4, _, _, rfl, rfl, f3', f4, by rw [List.length_map, List.length_map, List.length_append, List.length_singleton]; omega, fun l5 hl5 => ?_⟩
      rw [← List.map_append]
      have h5 := Same.new hl5 (.lst (((us ++ [z]) ++ vs).map V.str))
      have f5 : upd H5 l5 (.lst (((us ++ [z]) ++ vs).map V.str)) l5 = some (.lst (((us ++ [z]) ++ vs).map V.str)) := upd_same
      generalize upd H5 l5 (.lst (((us ++ [z]) ++ vs).map V.str)) = H6 at *
      obtain ⟨j1, j2, j3⟩ := join_ok (sep := Us.SEP) (insOk us vs ul um vl vm) (by rw [Us.sep_len]; decide) sepc
      exact ⟨_, l5, _, rfl, rfl, SqL.of f5, Nat.le_trans j1 (by decide), q _ _ (Nat.le_trans j2 (by decide)) (Nat.le_trans j3 (by decide)) (g1.trans (h1.trans (h2.trans (h3.trans (h4.trans h5)))))⟩
  refine ⟨_, rfl, rfl, _, rfl, ?_⟩
  refine ite2 (fun m => ?_) (fun m => ?_)
  · refine ⟨rfl, ?_⟩
    refine ⟨_, rfl, _, rfl, _, rfl, p, _, rfl, hS1, fun l1 hl1 => ?_⟩
    case _ =>
      obtain ⟨us, eu, ul, um⟩ := cut_map ws none (some a)
      rw [eu]
      have h1 := Same.new hl1 (.lst (us.map V.str))
      have f1 : upd H1 l1 (.lst (us.map V.str)) l1 = some (.lst (us.map V.str)) := upd_same
      generalize upd H1 l1 (.lst (us.map V.str)) = H2 at *
      refine ⟨_, rfl, (by decide : 1 ≤ sizeLine), fun l2 hl2 => ?_⟩
      have h2 := Same.new hl2 (.lst [.str z])
      have f2 : upd H2 l2 (.lst [.str z]) l2 = some (.lst ([z].map V.str)) := upd_same
      have f1' := h2 _ _ f1
      generalize upd H2 l2 (.lst [.str z]) = H3 at *
      refine ⟨l1, l2, _, _, rfl, rfl, f1', f2, by rw [List.length_map, List.length_map, List.length_singleton]; omega, fun l3 hl3 => ?_⟩
      rw [← List.map_append]
      have h3 := Same.new hl3 (.lst ((us ++ [z]).map V.str))
      have f3 : upd H3 l3 (.lst ((us ++ [z]).map V.str)) l3 = some (.lst ((us ++ [z]).map V.str)) := upd_same
      generalize upd H3 l3 (.lst ((us ++ [z]).map V.str)) = H4 at *
      have hS4 := h3.seq (h2.seq (h1.seq hS1))
      refine ⟨_, rfl, _, rfl, _, _, rfl, rfl, _, rfl, p, _, rfl, hS4, fun l4 hl4 => ?_⟩
      obtain ⟨vs, ev, vl, vm⟩ := cut_map ws (some (a + 1)) none
      rw [ev]
      have h4 := Same.new hl4 (.lst (vs.map V.str))
      have f4 : upd H4 l4 (.lst (vs.map V.str)) l4 = some (.lst (vs.map V.str)) := upd_same
      have f3' := h4 _ _ f3
      generalize upd H4 l4 (.lst (vs.map V.str)) = H5 at *
      refine ⟨l3, l4, _, _, rfl, rfl, f3', f4, by rw [List.length_map, List.length_map, List.length_append, List.length_singleton]; omega, fun l5 hl5 => ?_⟩
      rw [← List.map_append]
      have h5 := Same.new hl5 (.lst (((us ++ [z]) ++ vs).map V.str))
      have f5 : upd H5 l5 (.lst (((us ++ [z]) ++ vs).map V.str)) l5 = some (.lst (((us ++ [z]) ++ vs).map V.str)) := upd_same
      generalize upd H5 l5 (.lst (((us ++ [z]) ++ vs).map V.str)) = H6 at *
      obtain ⟨j1, j2, j3⟩ := join_ok (sep := Us.SEP) (insOk us vs ul um vl vm) (by rw [Us.sep_len]; decide) sepc
      exact ⟨_, l5, _, rfl, rfl, SqL.of f5, Nat.le_trans j1 (by decide), q _ _ (Nat.le_trans j2 (by decide)) (Nat.le_trans j3 (by decide)) (g1.trans (h1.trans (h2.trans (h3.trans (h4.trans h5)))))⟩
  refine ⟨_, rfl, rfl, _, rfl, ?_⟩
  refine ite2 (fun m => ?_) (fun m => ?_)
  · refine ⟨(by decide : 3 ≤ sizeLine), fun l1 hl1 => ?_⟩
    obtain ⟨y, hy, ix⟩ := pick_str (ys := [Str.ofString "+", Str.ofString " ", Str.ofString " + "]) (n := 3) (c := c / 770) (by decide) rfl
    have oy : y.length ≤ 3 ∧ Us.cnt y ≤ 1 := by
      have all : ∀ y ∈ [Str.ofString "+", Str.ofString " ", Str.ofString " + "], y.length ≤ 3 ∧ Us.cnt y ≤ 1 := by decide +kernel
      exact all y hy
    have h1 := Same.new hl1 (.lst ([Str.ofString "+", Str.ofString " ", Str.ofString " + "].map V.str))
    have f1 : upd H1 l1 (.lst ([Str.ofString "+", Str.ofString " ", Str.ofString " + "].map V.str)) l1 = some (.lst ([Str.ofString "+", Str.ofString " ", Str.ofString " + "].map V.str)) := upd_same
    dsimp only
    generalize upd H1 l1 (.lst ([Str.ofString "+", Str.ofString " ", Str.ofString " + "].map V.str)) = H2 at *
    refine ⟨_, rfl, _, _, rfl, rfl, CDivB.lit (by decide) (by decide), _, _, rfl, rfl, (by decide : (0 : Int) < 3), l1, _, _, _, rfl, rfl, SqL.of f1, ix, rfl, ?_⟩
    have hS2 := h1.seq hS1
    refine ⟨_, rfl, _, rfl, _, rfl, p, _, rfl, hS2, fun l2 hl2 => ?_⟩
    obtain ⟨us, eu, ul, um⟩ := cut_map ws none (some a)
    rw [eu]
    have h2 := Same.new hl2 (.lst (us.map V.str))
    have f2 : upd H2 l2 (.lst (us.map V.str)) l2 = some (.lst (us.map V.str)) := upd_same
    generalize upd H2 l2 (.lst (us.map V.str)) = H3 at *
    obtain ⟨j1, j2, j3⟩ := join_ok (N := 6) (sep := y) (ys := us) ⟨by omega, fun u hu => hw u (um u hu)⟩ oy.1 oy.2
    refine ⟨_, l2, us, rfl, rfl, SqL.of f2, Nat.le_trans j1 (by decide), ?_⟩
    have sl : (Str.ofString " + ").length = 3 := Us.sep_len
    have a1 : (Str.join y us ++ Str.ofString " + ").length = (Str.join y us).length + (Str.ofString " + ").length := Str.length_append _ _
    refine ⟨_, _, rfl, rfl, by omega, rfl, ?_⟩
    have hS3 := h2.seq hS2
    refine ⟨_, rfl, _, rfl, _, rfl, p, _, rfl, hS3, fun l3 hl3 => ?_⟩
    obtain ⟨vs, ev, vl, vm⟩ := cut_map ws (some a) none
    rw [ev]
    have h3 := Same.new hl3 (.lst (vs.map V.str))
    have f3 : upd H3 l3 (.lst (vs.map V.str)) l3 = some (.lst (vs.map V.str)) := upd_same
    generalize upd H3 l3 (.lst (vs.map V.str)) = H4 at *
    obtain ⟨k1, k2, k3⟩ := join_ok (N := 6) (sep := Us.SEP) (ys := vs) ⟨by omega, fun u hu => hw u (vm u hu)⟩ (by rw [Us.sep_len]; decide) sepc
    refine ⟨_, l3, vs, rfl, rfl, SqL.of f3, Nat.le_trans k1 (by decide), ?_⟩
    have a2 : (Str.join y us ++ Str.ofString " + " ++ Str.join (Str.ofString " + ") vs).length = (Str.join y us ++ Str.ofString " + ").length + (Str.join (Str.ofString " + ") vs).length := Str.length_append _ _
    have a3 : Us.cnt (Str.join y us ++ Str.ofString " + " ++ Str.join (Str.ofString " + ") vs) = Us.cnt (Str.join y us) + Us.cnt Us.SEP + Us.cnt (Str.join Us.SEP vs) := by rw [Us.cnt_append, Us.cnt_append]
    have k2' : (Str.join (Str.ofString " + ") vs).length ≤ 6 * 503 := k2
    exact ⟨_, _, rfl, rfl, by omega, q _ _ (by omega) (by omega) (g1.trans (h1.trans (h2.trans h3)))⟩
  refine ⟨_, rfl, rfl, _, rfl, ?_⟩
  refine ite2 (fun m => ?_) (fun m => ?_)
  · refine ⟨(by decide : 8 ≤ sizeLine), fun l1 hl1 => ?_⟩
    obtain ⟨y, hy, ix⟩ := pick_str (ys := oddC) (n := 8) (c := c / 770) (by decide) rfl
    have oy : y.length ≤ 20 ∧ Us.cnt y ≤ 2 := by
      have all : ∀ y ∈ oddC, y.length ≤ 20 ∧ Us.cnt y ≤ 2 := by decide +kernel
      exact all y hy
    have h1 := Same.new hl1 (.lst (oddC.map V.str))
    refine ⟨_, rfl, _, _, rfl, rfl, CDivB.lit (by decide) (by decide), _, _, rfl, rfl, (by decide : (0 : Int) < 8), l1, _, _, _, rfl, rfl, SqL.of upd_same, ix, ?_⟩
    exact q _ _ (by omega) (by omega) (g1.trans h1)
  obtain ⟨k1, k2, k3⟩ := join_ok (N := 6) (sep := Us.SEP) (ys := ws) ⟨w6, hw⟩ (by rw [Us.sep_len]; decide) sepc
  exact ⟨rfl, _, rfl, _, p, ws, rfl, rfl, hS1, Nat.le_trans k1 (by decide), q _ _ (Nat.le_trans k2 (by decide)) (Nat.le_trans k3 (by decide)) g1⟩
def sp_whole : Sp := fun vs H Q _ => ∃ n : Int, vs = [.int n] ∧ Q (.bl true) H
theorem sc_law_whole : FnScope ["found"] ["found"] (defScope s_law_whole) := ⟨rfl, rfl, rfl, by decide +kernel, rfl, by decide +kernel, by decide +kernel⟩
theorem cal_law_whole (D : Def K mg "_law_whole" s_law_whole) (z_isinstance : mg "isinstance" = none) (z_int : mg "int" = none) (z_bool : mg "bool" = none) : Cal P w K mg base CX0 "_law_whole" ["found"] 1 sp_whole := by
  refine D.cal sc_law_whole (fun _ _ _ _ _ _ us hl => match us, hl with | [_], _ => rfl) (fun vs H Q E h => ?_) (fun f cdv A outer s H vs Q E hr h => ?_)
  · obtain ⟨n, rfl, _⟩ := h
    rfl
  obtain ⟨n, rfl, q⟩ := h
  refine ⟨_, (pss_one (ps_ret (pe_and (pe_callB call_isi (by rfl) z_isinstance PyProof.Rows.boot_isinstance (pa_cons (pv 0) (pa_cons (pe_ty z_int PyProof.Rows.boot_int) pa_nil))) (pe_one (pe_not (pe_callB call_isi (by rfl) z_isinstance PyProof.Rows.boot_isinstance (pa_cons (pv 0) (pa_cons (pe_ty z_bool PyProof.Rows.boot_bool) pa_nil)))))))), ?_⟩
  refine ⟨_, rfl, _, _, _, _, rfl, .int n, kit_same, true, rfl, ?_⟩
  refine iteT ?_
  exact ⟨_, rfl, _, _, _, _, rfl, .int n, kit_int_bool, false, rfl, q⟩
def sp_list : Sp := fun vs H Q _ => ∃ (p r : Addr) (xs ys : List Int), vs = [.ref p, .ref r] ∧ H p = some (.lst (xs.map V.int)) ∧ H r = some (.lst (ys.map V.int)) ∧ xs.length ≤ 1000000 ∧ ys.length ≤ 1000000 ∧ Q (.bl (decide (xs = ys))) H
theorem sc_law_list : FnScope ["found", "due", "k"] ["found", "due"] (defScope s_law_list) := ⟨rfl, rfl, rfl, by decide +kernel, rfl, by decide +kernel, by decide +kernel⟩
theorem cal_law_list (D : Def K mg "_law_list" s_law_list) (z_isinstance : mg "isinstance" = none) (z_list : mg "list" = none) (z_len : mg "len" = none) (z_range : mg "range" = none) (c_law_whole : Cal P w K mg base CX0 "_law_whole" ["found"] 1 sp_whole) : Cal P w K mg base CX0 "_law_list" ["found", "due"] 2 sp_list := by
  refine D.cal sc_law_list (fun _ _ _ _ _ _ us hl => match us, hl with | [_, _], _ => rfl) (fun vs H Q E h => ?_) (fun f cdv A outer s H vs Q E hr h => ?_)
  · obtain ⟨p, r, xs, ys, rfl, _⟩ := h
    rfl
  obtain ⟨p, r, xs, ys, rfl, hp, hr1, hl1, hl2, q⟩ := h
  refine ⟨_, (pss_cons (ps_if (pw_or (pt_not (pt_val (pe_callB call_isi (by rfl) z_isinstance PyProof.Rows.boot_isinstance (pa_cons (pv 0) (pa_cons (pe_ty z_list PyProof.Rows.boot_list) pa_nil))))) (pw_or1 (pt_cmpR op_ne (pe_callB call_len_seq (by rfl) z_len PySem.boot_len (pa_cons (pv 0) pa_nil)) (pe_callB call_len_seq (by rfl) z_len PySem.boot_len (pa_cons (pv 1) pa_nil)) (nomark _)))).pt
      (pss_one (ps_ret pe_bl))
      pss_nil)
    (pss_cons (ps_for PassesOwn.never rfl (pi_range1 (by rfl) z_range (pa_cons (pe_callB call_len_seq (by rfl) z_len PySem.boot_len (pa_cons (pv 1) pa_nil)) pa_nil)) (pg_name (i := 2) sc_law_list.nd rfl (Or.inl rfl))
      (pss_one (ps_if (pw_or (pt_not (pt_val (pe_cal c_law_whole hr pass0 (pa_cons (pe_ix ix_list (pv 0) (pv 2) (fun _ _ => rfl)) pa_nil)))) (pw_or1 (pt_cmpR op_ne (pe_ix ix_list (pv 0) (pv 2) (fun _ _ => rfl)) (pe_ix ix_list (pv 1) (pv 2) (fun _ _ => rfl)) (nomark _)))).pt
          (pss_one (ps_ret pe_bl))
          pss_nil)))
    (pss_one (ps_ret pe_bl)))), ?_⟩
  refine ⟨_, rfl, _, _, _, _, rfl, .lst hp, kit_same, true, rfl, ?_⟩
  refine iteF ?_
  refine ⟨_, rfl, p, _, rfl, .inl (SqL.of hp), _, rfl, r, _, rfl, .inl (SqL.of hr1), rfl, _, rfl, ?_⟩
  rw [List.length_map, List.length_map]
  refine ite2 (fun c => ?_) (fun c => ?_)
  · have ne : xs ≠ ys := fun e => by
      rw [e] at c
      simp at c
    rw [decide_eq_false ne] at q
    exact q
  · have len : xs.length = ys.length := by
      simp at c
      omega
    refine ⟨_, rfl, r, _, rfl, .inl (SqL.of hr1), (ys.map V.int).length, rfl, by omega, by rw [List.length_map]; omega, for_range (n := (ys.map V.int).length) (fun i σ' H' => H' = H ∧ xs.take i = ys.take i ∧ ∃ k, σ' = [some (.ref p), some (.ref r), k]) ⟨rfl, rfl, none, rfl⟩ (fun i σ' H' hi h => ?_) (fun σ' H' h => ?_)⟩
    · obtain ⟨rfl, e, k, rfl⟩ := h
      rw [List.length_map] at hi
      have ex := at_int (ns := xs) (i := (0 : Int) + i) (by omega) (by omega)
      have ey := at_int (ns := ys) (i := (0 : Int) + i) (by omega) (by omega)
      have en : ((0 : Int) + i).toNat = i := by omega
      rw [en] at ex ey
      refine ⟨_, rfl, _, rfl, p, _, _, _, rfl, rfl, SqL.of hp, ex, _, rfl, true, rfl, ?_⟩
      refine iteF ?_
      refine ⟨_, rfl, _, rfl, p, _, _, _, rfl, rfl, SqL.of hp, ex, _, rfl, _, rfl, r, _, _, _, rfl, rfl, SqL.of hr1, ey, rfl, _, rfl, ?_⟩
      refine ite2 (fun c2 => ?_) (fun c2 => ?_)
      · have ne : xs ≠ ys := fun e => by
          rw [e] at c2
          simp at c2
        rw [decide_eq_false ne] at q
        exact q
      · refine ⟨rfl, ?_, _, rfl⟩
        have e2 : xs.getD i 0 = ys.getD i 0 := by
          simp at c2
          simpa using c2
        rw [List.getD_eq_getElem?_getD, List.getD_eq_getElem?_getD, List.getElem?_eq_getElem (show i < xs.length by omega), List.getElem?_eq_getElem hi] at e2
        rw [List.take_add_one, List.take_add_one, e, List.getElem?_eq_getElem (show i < xs.length by omega), List.getElem?_eq_getElem hi]
        have e3 : xs[i] = ys[i] := e2
        rw [e3]
    · obtain ⟨rfl, e, k, rfl⟩ := h
      rw [List.length_map] at e
      have e4 : xs = ys := by
        have a1 : xs.take ys.length = xs := List.take_of_length_le (by omega)
        have a2 : ys.take ys.length = ys := List.take_of_length_le (by omega)
        rw [a1, a2] at e
        exact e
      rw [decide_eq_true e4] at q
      exact q
def sp_cell (K : PySem.W.Frag) : Sp := fun vs H Q _ => ∃ (p : Addr) (ns : List Int) (k : Int), vs = [.ref p, .int k] ∧ SqL K H p (ns.map V.int) ∧ 0 ≤ k ∧ Q (.int (ns.getD k.toNat 0)) H
theorem sc_law_cell_at : FnScope ["script", "k"] ["script", "k"] (defScope s_law_cell_at) := ⟨rfl, rfl, rfl, by decide +kernel, rfl, by decide +kernel, by decide +kernel⟩
theorem cal_law_cell_at (D : Def K mg "_law_cell_at" s_law_cell_at) (z_len : mg "len" = none) : Cal P w K mg base CX0 "_law_cell_at" ["script", "k"] 1 (sp_cell K) := by
  refine D.cal sc_law_cell_at (fun _ _ _ _ _ _ us hl => match us, hl with | [_, _], _ => rfl) (fun vs H Q E h => ?_) (fun f cdv A outer s H vs Q E hr h => ?_)
  · obtain ⟨p, ns, k, rfl, _⟩ := h
    rfl
  obtain ⟨p, ns, k, rfl, hS, h0, q⟩ := h
  refine ⟨_, (pss_cons (ps_if (pt_cmpR op_lt (pv 1) (pe_callB call_len_seq (by rfl) z_len PySem.boot_len (pa_cons (pv 0) pa_nil)) (nomark _))
      (pss_one (ps_ret (pe_ix ix_list (pv 0) (pv 1) (fun _ _ => rfl))))
      pss_nil)
    (pss_one (ps_ret pe_int))), ?_⟩
  refine ⟨_, rfl, _, rfl, p, _, rfl, .inl hS, _, _, rfl, rfl, _, rfl, ?_⟩
  rw [List.length_map]
  refine ite2 (fun c => ?_) (fun c => ?_)
  · have c' : k < (ns.length : Int) := of_decide_eq_true c
    have hk : k.toNat < ns.length := by omega
    have e := at_int (ns := ns) (i := k) h0 c'
    refine ⟨_, rfl, _, rfl, p, _, _, _, rfl, rfl, hS, e, ?_⟩
    exact q
  · have c' : ¬ k < (ns.length : Int) := of_decide_eq_false (Bool.eq_false_iff.mpr c)
    have e : ns.getD k.toNat 0 = 0 := by rw [List.getD_eq_getElem?_getD, List.getElem?_eq_none (by omega)]; rfl
    rw [e] at q
    exact q
/-- what law(script) promises: for a list of at most 63 ints the answer is True -/
def sp_law (K : PySem.W.Frag) : Sp := fun vs H Q _ => ∃ (a : Addr) (ns : List Int), vs = [.ref a] ∧ SqL K H a (ns.map V.int) ∧ ns.length ≤ 63 ∧ ∀ H', Q (.bl true) H'
theorem dvs_bl {K : PySem.W.Frag} {H : Hp} : ∀ bs : List Bool, DVs K H (bs.map V.bl) (bs.map PyData.bool)
  | [] => .nil
  | n :: r => .cons (.bl n) (dvs_bl r)
def kBT : List Bool := [false, false, false, true, false, true]
def kNR : List Bool := [false, false, false, false, true, true]
theorem eqv_kinds (bs : List Bool) (h : bs = kBT ∨ bs = kNR) : PyData.eqv (.tuple [.none, .list (bs.map PyData.bool)]) (.tuple [.none, .list (bs.map PyData.bool)]) = true := by
  rcases h with rfl | rfl <;> decide +kernel
theorem shaped_kinds (bs : List Bool) (h : bs = kBT ∨ bs = kNR) : SeqAt.shaped (.tuple [.none, .list (bs.map PyData.bool)]) = true := by
  rcases h with rfl | rfl <;> decide +kernel
theorem word_ok {n : Int} (h0 : 0 < n) (h1 : n < 1000) : (Str.ofString "1/" ++ Str.ofString (toString n)).length ≤ 500 ∧ Us.cnt (Str.ofString "1/" ++ Str.ofString (toString n)) ≤ 2 ∧ (Str.ofString (toString n)).length ≤ 3 := by
  have a : (Str.ofString (toString n)).length ≤ 3 := by
    obtain ⟨m, rfl⟩ := Int.eq_ofNat_of_zero_le (Int.le_of_lt h0)
    rw [PySem.ofString_length]
    have e : toString (m : Int) = Nat.repr m := rfl
    have k := Nat.length_repr_le_iff (n := m) (k := 3) (by decide)
    rw [e, k]
    omega
  have b : (Str.ofString "1/" ++ Str.ofString (toString n)).length = (Str.ofString "1/").length + (Str.ofString (toString n)).length := Str.length_append _ _
  have c : (Str.ofString "1/").length = 2 := by decide +kernel
  have d : Us.cnt (Str.ofString "1/") = 0 := by decide +kernel
  have e : Us.cnt (Str.ofString (toString n)) = 0 := List.count_eq_zero.mpr fun h => by
    have := Us.num_digits (Int.le_of_lt h0) _ h
    omega
  rw [Us.cnt_append]
  omega
def WordsOk (ws : List Str) : Prop := ∀ y ∈ ws, y.length ≤ 500 ∧ Us.cnt y ≤ 2
theorem snoc_ok {ws : List Str} {y : Str} (h : WordsOk ws) (k : y.length ≤ 500 ∧ Us.cnt y ≤ 2) : WordsOk (ws ++ [y]) := fun z hz => by
  rcases List.mem_append.mp hz with w | w
  · exact h z w
  · rw [List.mem_singleton.mp w]
    exact k
def mA (K : PySem.W.Frag) (a : Addr) (ns : List Int) : TS := fun D σ H => (∀ H', D.rt (.bl true) H') ∧ SqL K H a (ns.map V.int) ∧ ∃ (l : Addr) (ws : List Str), ws.length ≤ 6 ∧ WordsOk ws ∧ H l = some (.lst (ws.map V.str)) ∧ σ = [some (.ref a), some (.ref l), none, none, none]
def mB (a : Addr) : TS := fun D σ H => (∀ H', D.rt (.bl true) H') ∧ ∃ (t : Str) (x1 : Option V), t.length ≤ 100000 ∧ Us.cnt t ≤ 50 ∧ σ = [some (.ref a), x1, some (.str t), none, none]
theorem sc_law : FnScope ["script", "words", "text", "due", "tried"] ["script"] (defScope s_law) := ⟨rfl, rfl, rfl, by decide +kernel, rfl, by decide +kernel, by decide +kernel⟩
set_option maxHeartbeats 4000000 in
theorem ok_law (D : Def K mg "law" s_law) (z_range : mg "range" = none) (z_str : mg "str" = none) (z_len : mg "len" = none) (c_law_cell_at : Cal P w K mg base CX0 "_law_cell_at" ["script", "k"] 1 (sp_cell K))
    (c_law_turned : Cal P w K mg base CX0 "_law_turned" ["words", "cell"] 2 (sp_turned K)) (c_law_due : Cal P w K mg base CX0 "_law_due" ["text"] 1 sp_due) (c_law_tried : Cal P w K mg base CX0 "_law_tried" ["text"] 4 sp_tried) (c_law_list : Cal P w K mg base CX0 "_law_list" ["found", "due"] 2 sp_list) : Cal P w K mg base CX0 "law" ["script"] 10 (sp_law K) := by
  refine D.cal sc_law (fun _ _ _ _ _ _ us hl => match us, hl with | [_], _ => rfl) (fun vs H Q E h => ?_) (fun f cdv A outer s H vs Q E hr h => ?_)
  · obtain ⟨a, ns, rfl, _⟩ := h
    rfl
  obtain ⟨a, ns, rfl, hS, h63, q⟩ := h
  have hu := hr.units
  have sz : sizeLine = 16777216 := sizeLine_eq
  have w2 : (Str.ofString "1/").length = 2 := by decide +kernel
  have small : ∀ n : Int, 0 < n → n < 1000 → n.natAbs < 10 ^ 4300 := fun n h0 h1 => by
    have w1 : (1000 : Int) ≤ ((10 ^ 4300 : Nat) : Int) := by decide +kernel
    generalize (10 : Nat) ^ 4300 = x at *
    omega
  refine ⟨_, (pss_cons (ps_setComp (i := 1) sc_law.nd rfl (Or.inl rfl) (slots := [0]) (hnd := (show List.Nodup (["k", "script"] : List Str) by decide +kernel)) (pi_range1 (by rfl) z_range (pa_cons (pe_op op_add pe_int (pe_op op_mod (pe_cal c_law_cell_at hr pass0 (pa_cons (pv 0) (pa_cons pe_int pa_nil))) pe_int)) pa_nil)) (fun C s2 H2 fp pn => (ptn0 (pe_op op_add_str pe_str (pe_callTy (call_strB rfl) (by rfl) z_str PyProof.Rows.boot_str (pa_cons (pe_op op_add pe_int (pe_op op_mod (pe_cal c_law_cell_at hr pass0 (pa_cons (pv 1) (pa_cons (pe_op op_add pe_int (pv 0)) pa_nil))) pe_int)) pa_nil))))))
    (pss_cons (ps_if (pt_cmpR op_eq (pe_op op_mod (pe_cal c_law_cell_at hr pass0 (pa_cons (pv 0) (pa_cons pe_int pa_nil))) pe_int) pe_int (nomark _))
      (pss_one (ps_setComp (i := 1) sc_law.nd rfl (Or.inl rfl) (slots := [0]) (hnd := (show List.Nodup (["k", "script"] : List Str) by decide +kernel)) (pi_range1 (by rfl) z_range (pa_cons (pe_callB call_len_seq (by rfl) z_len PySem.boot_len (pa_cons (pv 1) pa_nil)) pa_nil)) (fun C s2 H2 fp pn => (ptn0 (pe_op op_add_str pe_str (pe_callTy (call_strB rfl) (by rfl) z_str PyProof.Rows.boot_str (pa_cons (pe_op op_add (pe_op op_add pe_int (pe_op op_mulB pe_int (pv 0))) (pe_op op_mod (pe_cal c_law_cell_at hr pass0 (pa_cons (pv 1) (pa_cons (pe_op op_add pe_int (pv 0)) pa_nil))) pe_int)) pa_nil)))))))
      pss_nil)
    (PSs.imp (t' := (mA K a ns))
    (pss_cons (ps_set (i := 2) sc_law.nd rfl (Or.inl rfl) (pe_bm PySem.F.plainAttrs_str PySem.F.slot_str_join PySem.F.type_str_join mt_join pe_str (pa_cons (pv 1) pa_nil)))
    (pss_cons (ps_if (pt_cmpR op_gt (pe_op op_mod (pe_op op_fdivB (pe_cal c_law_cell_at hr pass0 (pa_cons (pv 0) (pa_cons pe_int pa_nil))) pe_int) pe_int) pe_int (nomark _))
      (pss_one (ps_set (i := 2) sc_law.nd rfl (Or.inl rfl) (pe_cal c_law_turned hr pass0 (pa_cons (pv 1) (pa_cons (pe_cal c_law_cell_at hr pass0 (pa_cons (pv 0) (pa_cons pe_int pa_nil))) pa_nil)))))
      pss_nil)
    (PSs.imp (t' := (mB a))
    (pss_cons (ps_set (i := 3) sc_law.nd rfl (Or.inl rfl) (pe_cal c_law_due hr pass0 (pa_cons (pv 2) pa_nil)))
    (pss_cons (ps_set (i := 4) sc_law.nd rfl (Or.inl rfl) (pe_cal c_law_tried hr pass0 (pa_cons (pv 2) pa_nil)))
    (pss_cons (ps_if (pt_cmpR op_eq (pe_ix ix_tup (pv 3) pe_int (fun _ _ => rfl)) pe_str (nomark _))
      (pss_one (ps_ret (pe_cmpR (op_eqD hu) (pv 4) (pe_tup (pa_cons pe_non (pa_cons (pe_lst (pa_cons pe_bl (pa_cons pe_bl (pa_cons pe_bl (pa_cons pe_bl (pa_cons pe_bl (pa_cons pe_bl pa_nil))))))) pa_nil))) (nomark _))))
      pss_nil)
    (pss_cons (ps_if (pt_cmpR op_eq (pe_ix ix_tup (pv 3) pe_int (fun _ _ => rfl)) pe_str (nomark _))
      (pss_one (ps_ret (pe_cmpR (op_eqD hu) (pv 4) (pe_tup (pa_cons pe_non (pa_cons (pe_lst (pa_cons pe_bl (pa_cons pe_bl (pa_cons pe_bl (pa_cons pe_bl (pa_cons pe_bl (pa_cons pe_bl pa_nil))))))) pa_nil))) (nomark _))))
      pss_nil)
    (pss_one (ps_ret (pe_and (pe_cmpR (op_eqD hu) (pe_ix ix_tup (pv 4) pe_int (fun _ _ => rfl)) (pe_lst pa_nil) (nomark _)) (pe_one (pe_cal c_law_list hr pass0 (pa_cons (pe_ix ix_tup (pv 4) pe_int (fun _ _ => rfl)) (pa_cons (pe_ix ix_tup (pv 3) pe_int (fun _ _ => rfl)) pa_nil))))))))))) ?m2))) ?m1))), ?_⟩
  case m2 =>
    rintro D σ H ⟨q, t, x1, tl, tc, rfl⟩
    refine ⟨_, rfl, t, rfl, tl, tc, fun p H1 v z g1 e1 hd => ?_⟩
    refine ⟨_, rfl, t, rfl, tl, fun r k H2 v2 bs g2 e2 ek ht => ?_⟩
    have e1' := g2 _ _ e1
    have same : ∀ (l r2 : Addr) (H3 : Hp), Same H2 H3 → v2 = .non → (bs = kBT ∨ bs = kNR) → H3 l = some (.lst (bs.map V.bl)) → H3 r2 = some (.tup [.non, .ref l]) → ∀ Q' : VK, Q' (.bl true) H3 → rEqD K (.ref r) (.ref r2) H3 Q' := by
      rintro l r2 H3 g3 rfl hb el er Q' q'
      refine ⟨_, _, .tup (SqT.of (g3 _ _ e2)) (.cons .non (.cons (.lst (SqL.of (g3 _ _ ek)) (dvs_bl bs)) .nil)), .tup (SqT.of er) (.cons .non (.cons (.lst (SqL.of el) (dvs_bl bs)) .nil)), shaped_kinds bs hb, shaped_kinds bs hb, ?_⟩
      rw [eqv_kinds bs hb]
      exact q'
    refine ⟨_, rfl, p, _, _, _, rfl, rfl, SqT.of e1', at1, rfl, _, rfl, ?_⟩
    rcases hd with ⟨hb, rfl, rfl⟩ | ⟨nb, hn, rfl, rfl⟩ | ⟨nb, nn, rfl, rl, rfl, erl⟩
    · refine iteDT rfl ?_
      obtain ⟨rfl, rfl⟩ : v2 = .non ∧ bs = kBT := by
        rcases ht with h | h | h
        · exact h.2
        · exact absurd hb h.1
        · exact absurd hb h.1
      refine ⟨_, rfl, (by decide : 6 ≤ sizeLine), fun l hl => ⟨(by decide : 2 ≤ sizeLine), fun r2 hr2 => ?_⟩⟩
      have h1 := Same.new hl (.lst (kBT.map V.bl))
      have h2 := Same.new hr2 (.tup [.non, .ref l])
      exact same l r2 _ (h1.trans h2) rfl (.inl rfl) (h2 _ _ upd_same) upd_same _ (q _)
    · refine iteDF (fun h => absurd (V.str.inj h) (by decide +kernel)) ?_
      refine ⟨_, rfl, p, _, _, _, rfl, rfl, SqT.of e1', at1, rfl, _, rfl, ?_⟩
      refine iteDT rfl ?_
      obtain ⟨rfl, rfl⟩ : v2 = .non ∧ bs = kNR := by
        rcases ht with h | h | h
        · exact absurd h.1 nb
        · exact h.2.2
        · exact absurd hn h.2.1
      refine ⟨_, rfl, (by decide : 6 ≤ sizeLine), fun l hl => ⟨(by decide : 2 ≤ sizeLine), fun r2 hr2 => ?_⟩⟩
      have h1 := Same.new hl (.lst (kNR.map V.bl))
      have h2 := Same.new hr2 (.tup [.non, .ref l])
      exact same l r2 _ (h1.trans h2) rfl (.inr rfl) (h2 _ _ upd_same) upd_same _ (q _)
    · refine iteDF (fun h => absurd (V.str.inj h) (by decide +kernel)) ?_
      refine ⟨_, rfl, p, _, _, _, rfl, rfl, SqT.of e1', at1, rfl, _, rfl, ?_⟩
      refine iteDF (fun h => absurd (V.str.inj h) (by decide +kernel)) ?_
      obtain ⟨rfl, r4, rfl, er4⟩ : bs = [] ∧ ∃ r, v2 = .ref r ∧ H2 r = some (.lst ((outT t).map V.int)) := by
        rcases ht with h | h | h
        · exact absurd h.1 nb
        · exact absurd h.2.1 nn
        · exact h.2.2
      refine ⟨_, rfl, r, _, _, _, rfl, rfl, SqT.of e2, at1, (by decide : 0 ≤ sizeLine), fun l hl => ?_⟩
      have h1 := Same.new hl (.lst [])
      have f1 : upd H2 l (.lst []) l = some (.lst []) := upd_same
      have ek' := h1 _ _ ek
      refine ⟨_, _, .lst (SqL.of ek') (dvs_ints []), .lst (SqL.of f1) (dvs_ints []), shaped_ints [], shaped_ints [], _, rfl, ?_⟩
      rw [eqv_ints [] []]
      refine iteDT rfl ?_
      have lo : (outT t).length ≤ 51 := by
        have := Us.parts_few t
        unfold outT
        split
        · exact Nat.zero_le _
        · unfold vals
          rw [List.length_map]
          omega
      refine ⟨_, rfl, r, _, _, _, rfl, rfl, SqT.of (h1 _ _ e2), at0, _, rfl, p, _, _, _, rfl, rfl, SqT.of (h1 _ _ e1'), at0, ?_⟩
      refine ⟨r4, rl, outT t, outT t, rfl, h1 _ _ er4, h1 _ _ (g2 _ _ erl), by omega, by omega, ?_⟩
      rw [decide_eq_true rfl]
      exact q _
  case m1 =>
    rintro D σ H ⟨q, hS, l, ws, w6, hw, el, rfl⟩
    have sl : Us.SEP.length = 3 := Us.sep_len
    have sepc : Us.cnt Us.SEP ≤ 1 := by decide +kernel
    obtain ⟨j1, j2, j3⟩ := join_ok (N := 6) (sep := Us.SEP) (ys := ws) ⟨w6, hw⟩ (by rw [Us.sep_len]; decide) sepc
    refine ⟨rfl, _, rfl, _, l, ws, rfl, rfl, SqL.of el, Nat.le_trans j1 (by decide), ?_⟩
    refine ⟨_, rfl, a, ns, 1, rfl, hS, by decide, _, _, rfl, rfl, CDivB.lit (by decide) (by decide), _, _, rfl, rfl, (by decide : (0 : Int) < 4), _, _, rfl, rfl, _, rfl, ?_⟩
    refine ite2 (fun c => ?_) (fun c => ?_)
    · refine ⟨_, rfl, _, rfl, a, ns, 2, rfl, hS, by decide, l, ws, _, rfl, SqL.of el, w6, hw, fun z H1 zl zc g1 => ?_⟩
      exact ⟨q, z, _, by omega, zc, rfl⟩
    · exact ⟨q, _, _, Nat.le_trans j2 (by decide), Nat.le_trans j3 (by decide), rfl⟩
  have c0 := Int.emod_nonneg (ns.getD (0 : Int).toNat 0) (show (6 : Int) ≠ 0 by decide)
  have c1 := Int.emod_lt_of_pos (ns.getD (0 : Int).toNat 0) (show (0 : Int) < 6 by decide)
  refine ⟨_, rfl, a, ns, 0, rfl, hS, by decide, _, _, rfl, rfl, (by decide : (0 : Int) < 6), _, _, rfl, rfl, _, rfl, by omega, by omega, (1 + ns.getD (0 : Int).toNat 0 % 6).toNat, fun i ys H' => H' = H ∧ ∃ ws : List Str, ys = ws.map V.str ∧ ws.length = i ∧ WordsOk ws, by omega, ⟨rfl, [], rfl, rfl, fun _ h => (nomatch h)⟩, ?_, ?_⟩
  · rintro i ys H' hi ⟨rfl, ws, rfl, hl, hx⟩
    refine ⟨hi, fun v H2 h => ?_⟩
    obtain ⟨rfl, rfl⟩ := h
    have d0 := Int.emod_nonneg (ns.getD (3 + (0 + (i : Int))).toNat 0) (show (30 : Int) ≠ 0 by decide)
    have d1 := Int.emod_lt_of_pos (ns.getD (3 + (0 + (i : Int))).toNat 0) (show (0 : Int) < 30 by decide)
    obtain ⟨k1, k2, k3⟩ := word_ok (n := 1 + ns.getD (3 + (0 + (i : Int))).toNat 0 % 30) (by omega) (by omega)
    refine ⟨_, rfl, _, rfl, _, _, rfl, rfl, a, ns, 3 + (0 + (i : Int)), rfl, hS, by omega, _, _, rfl, rfl, (by decide : (0 : Int) < 30), _, _, rfl, rfl, _, rfl, small _ (by omega) (by omega), _, _, rfl, rfl, by omega, ?_⟩
    exact ⟨rfl, ws ++ [_], by rw [List.map_append]; rfl, by rw [List.length_append, hl]; rfl, snoc_ok hx ⟨k1, k2⟩⟩
  rintro ys H' ⟨rfl, ws, rfl, hl, hx⟩
  refine ⟨Nat.le_refl _, fun l hl' => ?_⟩
  have g1 := Same.new hl' (.lst (ws.map V.str))
  have e1 : upd H' l (.lst (ws.map V.str)) l = some (.lst (ws.map V.str)) := upd_same
  have hS1 := g1.seq hS
  have w6 : ws.length ≤ 6 := by omega
  dsimp only
  generalize upd H' l (.lst (ws.map V.str)) = H1 at *
  refine ⟨_, rfl, a, ns, 1, rfl, hS1, by decide, _, _, rfl, rfl, (by decide : (0 : Int) < 2), rfl, _, rfl, ?_⟩
  refine ite2 (fun c => ?_) (fun c => ?_)
  · refine ⟨_, rfl, l, _, rfl, .inl (SqL.of e1), _, rfl, ?_, ?_, ws.length, fun i ys H2 => H2 = H1 ∧ ∃ us : List Str, ys = us.map V.str ∧ us.length = i ∧ WordsOk us, by omega, ⟨rfl, [], rfl, rfl, fun _ h => (nomatch h)⟩, ?_, ?_⟩
    · rw [List.length_map]
      omega
    · rw [List.length_map]
      omega
    · rintro i ys H2 hi ⟨rfl, us, rfl, hul, hux⟩
      refine ⟨by rw [List.length_map]; show i < (ws.length : Int).toNat; omega, fun v H3 h => ?_⟩
      obtain ⟨rfl, rfl⟩ := h
      have d0 := Int.emod_nonneg (ns.getD (3 + (0 + (i : Int))).toNat 0) (show (5 : Int) ≠ 0 by decide)
      have d1 := Int.emod_lt_of_pos (ns.getD (3 + (0 + (i : Int))).toNat 0) (show (0 : Int) < 5 by decide)
      obtain ⟨k1, k2, k3⟩ := word_ok (n := 2 + 5 * (0 + (i : Int)) + ns.getD (3 + (0 + (i : Int))).toNat 0 % 5) (by omega) (by omega)
      have p9 : (1000 : Int) ≤ Us.P2 8999 := Us.P2_lit (by decide) (by decide)
      have p9' : (1000 : Int) ≤ Us.P2 9000 := Us.P2_lit (by decide) (by decide)
      refine ⟨_, rfl, _, _, rfl, rfl, ⟨⟨by omega, by omega⟩, ⟨by omega, by omega⟩⟩, ?_⟩
      refine ⟨_, _, rfl, rfl, _, rfl, _, rfl, _, _, rfl, rfl, a, ns, 3 + (0 + (i : Int)), rfl, hS1, by omega, _, _, rfl, rfl, (by decide : (0 : Int) < 5), _, _, rfl, rfl, _, rfl, small _ (by omega) (by omega), _, _, rfl, rfl, by omega, ?_⟩
      exact ⟨rfl, us ++ [_], by rw [List.map_append]; rfl, by rw [List.length_append, hul]; rfl, snoc_ok hux ⟨k1, k2⟩⟩
    · rintro ys H2 ⟨rfl, us, rfl, hul, hux⟩
      refine ⟨by rw [List.length_map]; exact Nat.le_refl _, fun l2 hl2 => ?_⟩
      have g2 := Same.new hl2 (.lst (us.map V.str))
      exact ⟨q, g2.seq hS1, l2, us, by omega, hux, upd_same, rfl⟩
  · exact ⟨q, hS1, l, ws, w6, hx, e1, rfl⟩
end
theorem all_mk {l : PySem.W.OpenLaw} {w : World} {K : PySem.W.Frag} {h : Heap} {mg : Str → Option Value} {fa : Addr} (X : K.In h) (G : h.Ns mainGlobals mg) (hfa : mg "law" = some (.ref fa))
    {f0 : Addr} {od0 an0 : Option Addr} {sl0 : Array (Option Value)} {oc0 kV0 dc0 pm0 cd0 ct0 : Value}
    (a0 : PySem.W.nsIn K mainGlobals "is_number" = some (some (.ref f0))) (l0 : K.lookup f0 = some ⟨oc0, od0, .func (PySem.W.fnOf "is_number" "is_number" (defArgs s_is_number) (defBody s_is_number) (defScope s_is_number) .none kV0 dc0 pm0 an0 cd0 ct0), sl0⟩) (c0 : PySem.W.codeIn K cd0 "is_number" = true) (k0 : PySem.W.keepIn K (.ref f0) = true)
    {f1 : Addr} {od1 an1 : Option Addr} {sl1 : Array (Option Value)} {oc1 kV1 dc1 pm1 cd1 ct1 : Value}
    (a1 : PySem.W.nsIn K mainGlobals "read_share" = some (some (.ref f1))) (l1 : K.lookup f1 = some ⟨oc1, od1, .func (PySem.W.fnOf "read_share" "read_share" (defArgs s_read_share) (defBody s_read_share) (defScope s_read_share) .none kV1 dc1 pm1 an1 cd1 ct1), sl1⟩) (c1 : PySem.W.codeIn K cd1 "read_share" = true) (k1 : PySem.W.keepIn K (.ref f1) = true)
    {f2 : Addr} {od2 an2 : Option Addr} {sl2 : Array (Option Value)} {oc2 kV2 dc2 pm2 cd2 ct2 : Value}
    (a2 : PySem.W.nsIn K mainGlobals "rises" = some (some (.ref f2))) (l2 : K.lookup f2 = some ⟨oc2, od2, .func (PySem.W.fnOf "rises" "rises" (defArgs s_rises) (defBody s_rises) (defScope s_rises) .none kV2 dc2 pm2 an2 cd2 ct2), sl2⟩) (c2 : PySem.W.codeIn K cd2 "rises" = true) (k2 : PySem.W.keepIn K (.ref f2) = true)
    {f3 : Addr} {od3 an3 : Option Addr} {sl3 : Array (Option Value)} {oc3 kV3 dc3 pm3 cd3 ct3 : Value}
    (a3 : PySem.W.nsIn K mainGlobals "read" = some (some (.ref f3))) (l3 : K.lookup f3 = some ⟨oc3, od3, .func (PySem.W.fnOf "read" "read" (defArgs s_read) (defBody s_read) (defScope s_read) .none kV3 dc3 pm3 an3 cd3 ct3), sl3⟩) (c3 : PySem.W.codeIn K cd3 "read" = true) (k3 : PySem.W.keepIn K (.ref f3) = true)
    {f4 : Addr} {od4 an4 : Option Addr} {sl4 : Array (Option Value)} {oc4 kV4 dc4 pm4 cd4 ct4 : Value}
    (a4 : PySem.W.nsIn K mainGlobals "_law_kind" = some (some (.ref f4))) (l4 : K.lookup f4 = some ⟨oc4, od4, .func (PySem.W.fnOf "_law_kind" "_law_kind" (defArgs s_law_kind) (defBody s_law_kind) (defScope s_law_kind) .none kV4 dc4 pm4 an4 cd4 ct4), sl4⟩) (c4 : PySem.W.codeIn K cd4 "_law_kind" = true) (k4 : PySem.W.keepIn K (.ref f4) = true)
    {f5 : Addr} {od5 an5 : Option Addr} {sl5 : Array (Option Value)} {oc5 kV5 dc5 pm5 cd5 ct5 : Value}
    (a5 : PySem.W.nsIn K mainGlobals "_law_tried" = some (some (.ref f5))) (l5 : K.lookup f5 = some ⟨oc5, od5, .func (PySem.W.fnOf "_law_tried" "_law_tried" (defArgs s_law_tried) (defBody s_law_tried) (defScope s_law_tried) .none kV5 dc5 pm5 an5 cd5 ct5), sl5⟩) (c5 : PySem.W.codeIn K cd5 "_law_tried" = true) (k5 : PySem.W.keepIn K (.ref f5) = true)
    {f6 : Addr} {od6 an6 : Option Addr} {sl6 : Array (Option Value)} {oc6 kV6 dc6 pm6 cd6 ct6 : Value}
    (a6 : PySem.W.nsIn K mainGlobals "_law_due" = some (some (.ref f6))) (l6 : K.lookup f6 = some ⟨oc6, od6, .func (PySem.W.fnOf "_law_due" "_law_due" (defArgs s_law_due) (defBody s_law_due) (defScope s_law_due) .none kV6 dc6 pm6 an6 cd6 ct6), sl6⟩) (c6 : PySem.W.codeIn K cd6 "_law_due" = true) (k6 : PySem.W.keepIn K (.ref f6) = true)
    {f7 : Addr} {od7 an7 : Option Addr} {sl7 : Array (Option Value)} {oc7 kV7 dc7 pm7 cd7 ct7 : Value}
    (a7 : PySem.W.nsIn K mainGlobals "_law_odd" = some (some (.ref f7))) (l7 : K.lookup f7 = some ⟨oc7, od7, .func (PySem.W.fnOf "_law_odd" "_law_odd" (defArgs s_law_odd) (defBody s_law_odd) (defScope s_law_odd) .none kV7 dc7 pm7 an7 cd7 ct7), sl7⟩) (c7 : PySem.W.codeIn K cd7 "_law_odd" = true) (k7 : PySem.W.keepIn K (.ref f7) = true)
    {f8 : Addr} {od8 an8 : Option Addr} {sl8 : Array (Option Value)} {oc8 kV8 dc8 pm8 cd8 ct8 : Value}
    (a8 : PySem.W.nsIn K mainGlobals "_law_turned" = some (some (.ref f8))) (l8 : K.lookup f8 = some ⟨oc8, od8, .func (PySem.W.fnOf "_law_turned" "_law_turned" (defArgs s_law_turned) (defBody s_law_turned) (defScope s_law_turned) .none kV8 dc8 pm8 an8 cd8 ct8), sl8⟩) (c8 : PySem.W.codeIn K cd8 "_law_turned" = true) (k8 : PySem.W.keepIn K (.ref f8) = true)
    {f9 : Addr} {od9 an9 : Option Addr} {sl9 : Array (Option Value)} {oc9 kV9 dc9 pm9 cd9 ct9 : Value}
    (a9 : PySem.W.nsIn K mainGlobals "_law_whole" = some (some (.ref f9))) (l9 : K.lookup f9 = some ⟨oc9, od9, .func (PySem.W.fnOf "_law_whole" "_law_whole" (defArgs s_law_whole) (defBody s_law_whole) (defScope s_law_whole) .none kV9 dc9 pm9 an9 cd9 ct9), sl9⟩) (c9 : PySem.W.codeIn K cd9 "_law_whole" = true) (k9 : PySem.W.keepIn K (.ref f9) = true)
    {f10 : Addr} {od10 an10 : Option Addr} {sl10 : Array (Option Value)} {oc10 kV10 dc10 pm10 cd10 ct10 : Value}
    (a10 : PySem.W.nsIn K mainGlobals "_law_list" = some (some (.ref f10))) (l10 : K.lookup f10 = some ⟨oc10, od10, .func (PySem.W.fnOf "_law_list" "_law_list" (defArgs s_law_list) (defBody s_law_list) (defScope s_law_list) .none kV10 dc10 pm10 an10 cd10 ct10), sl10⟩) (c10 : PySem.W.codeIn K cd10 "_law_list" = true) (k10 : PySem.W.keepIn K (.ref f10) = true)
    {f11 : Addr} {od11 an11 : Option Addr} {sl11 : Array (Option Value)} {oc11 kV11 dc11 pm11 cd11 ct11 : Value}
    (a11 : PySem.W.nsIn K mainGlobals "_law_cell_at" = some (some (.ref f11))) (l11 : K.lookup f11 = some ⟨oc11, od11, .func (PySem.W.fnOf "_law_cell_at" "_law_cell_at" (defArgs s_law_cell_at) (defBody s_law_cell_at) (defScope s_law_cell_at) .none kV11 dc11 pm11 an11 cd11 ct11), sl11⟩) (c11 : PySem.W.codeIn K cd11 "_law_cell_at" = true) (k11 : PySem.W.keepIn K (.ref f11) = true)
    {f12 : Addr} {od12 an12 : Option Addr} {sl12 : Array (Option Value)} {oc12 kV12 dc12 pm12 cd12 ct12 : Value}
    (a12 : PySem.W.nsIn K mainGlobals "law" = some (some (.ref f12))) (l12 : K.lookup f12 = some ⟨oc12, od12, .func (PySem.W.fnOf "law" "law" (defArgs s_law) (defBody s_law) (defScope s_law) .none kV12 dc12 pm12 an12 cd12 ct12), sl12⟩) (c12 : PySem.W.codeIn K cd12 "law" = true) (k12 : PySem.W.keepIn K (.ref f12) = true)
    {CS C1 C2 C3 C4 C5 : Addr}
    (aaCS : PySem.W.nsIn K mainGlobals "ShareError" = some (some (.ref CS)))
    (aaC1 : PySem.W.nsIn K mainGlobals "NoFraction" = some (some (.ref C1)))
    (aaC2 : PySem.W.nsIn K mainGlobals "NotBelow" = some (some (.ref C2)))
    (aaC3 : PySem.W.nsIn K mainGlobals "TooGreat" = some (some (.ref C3)))
    (aaC4 : PySem.W.nsIn K mainGlobals "BadText" = some (some (.ref C4)))
    (aaC5 : PySem.W.nsIn K mainGlobals "NotRising" = some (some (.ref C5)))
    (xCS : PySem.W.excIn K CS mroVE "ValueError.__new__" = true) (sBE : PySem.W.subIn K (.ref CS) (.type "BaseException") = some true) (fgg : PySem.W.specialIn K (.builtin "object.__class__") "__get__" = some (some (.builtin "getset_descriptor.__get__"))) (ftt : PySem.W.takesIn K (.builtin "object.__class__") = some true)
    (xC4 : PySem.W.excIn K C4 mroVE "ValueError.__new__" = true) (gaC4 : PySem.W.findIn K (.ref C4) "__getattribute__" = some (some (.builtin "BaseException.__getattribute__"))) (gxC4 : PySem.W.findIn K (.ref C4) "__getattr__" = some none) (faC4 : PySem.W.findIn K (.ref C4) "__class__" = some (some (.builtin "object.__class__"))) (moC4 : PySem.W.mroIn K C4 (.type "object") = some true) (mbC4 : PySem.W.mroIn K C4 (.type "BaseException") = some true) (suC4 : PySem.W.subIn K (.ref C4) (.ref CS) = some true)
    (k1C4 : PySem.W.kitOne K (.ref C4) (.ref C1) = some false)
    (k2C4 : PySem.W.kitOne K (.ref C4) (.ref C2) = some false)
    (k3C4 : PySem.W.kitOne K (.ref C4) (.ref C3) = some false)
    (k4C4 : PySem.W.kitOne K (.ref C4) (.ref C4) = some true)
    (k5C4 : PySem.W.kitOne K (.ref C4) (.ref C5) = some false)
    (k6C4 : PySem.W.kitOne K (.ref C4) (.type "ValueError") = some true)
    (xC5 : PySem.W.excIn K C5 mroVE "ValueError.__new__" = true) (gaC5 : PySem.W.findIn K (.ref C5) "__getattribute__" = some (some (.builtin "BaseException.__getattribute__"))) (gxC5 : PySem.W.findIn K (.ref C5) "__getattr__" = some none) (faC5 : PySem.W.findIn K (.ref C5) "__class__" = some (some (.builtin "object.__class__"))) (moC5 : PySem.W.mroIn K C5 (.type "object") = some true) (mbC5 : PySem.W.mroIn K C5 (.type "BaseException") = some true) (suC5 : PySem.W.subIn K (.ref C5) (.ref CS) = some true)
    (k1C5 : PySem.W.kitOne K (.ref C5) (.ref C1) = some false)
    (k2C5 : PySem.W.kitOne K (.ref C5) (.ref C2) = some false)
    (k3C5 : PySem.W.kitOne K (.ref C5) (.ref C3) = some false)
    (k4C5 : PySem.W.kitOne K (.ref C5) (.ref C4) = some false)
    (k5C5 : PySem.W.kitOne K (.ref C5) (.ref C5) = some true)
    (k6C5 : PySem.W.kitOne K (.ref C5) (.type "ValueError") = some true)
    (yz_ValueError : PySem.W.nsIn K mainGlobals "ValueError" = some none)
    (yz_all : PySem.W.nsIn K mainGlobals "all" = some none)
    (yz_bool : PySem.W.nsIn K mainGlobals "bool" = some none)
    (yz_int : PySem.W.nsIn K mainGlobals "int" = some none)
    (yz_isinstance : PySem.W.nsIn K mainGlobals "isinstance" = some none)
    (yz_len : PySem.W.nsIn K mainGlobals "len" = some none)
    (yz_list : PySem.W.nsIn K mainGlobals "list" = some none)
    (yz_range : PySem.W.nsIn K mainGlobals "range" = some none)
    (yz_set : PySem.W.nsIn K mainGlobals "set" = some none)
    (yz_sorted : PySem.W.nsIn K mainGlobals "sorted" = some none)
    (yz_str : PySem.W.nsIn K mainGlobals "str" = some none)
    : ∃ fd : FuncData, (∀ (s : Shared) (v : Value), BindsTo s fd ⟨[v], []⟩ [("script", v)]) ∧ ∀ base : Heap, K.In base → base.Ns mainGlobals mg → FnOk l.prog w K mg base CX0 10 fa fd ["script"] (sp_law K) := by
  have D_is_number : Def K mg "is_number" s_is_number := Def.mk' X G a0 l0 c0 k0
  have D_read_share : Def K mg "read_share" s_read_share := Def.mk' X G a1 l1 c1 k1
  have D_rises : Def K mg "rises" s_rises := Def.mk' X G a2 l2 c2 k2
  have D_read : Def K mg "read" s_read := Def.mk' X G a3 l3 c3 k3
  have D_law_kind : Def K mg "_law_kind" s_law_kind := Def.mk' X G a4 l4 c4 k4
  have D_law_tried : Def K mg "_law_tried" s_law_tried := Def.mk' X G a5 l5 c5 k5
  have D_law_due : Def K mg "_law_due" s_law_due := Def.mk' X G a6 l6 c6 k6
  have D_law_odd : Def K mg "_law_odd" s_law_odd := Def.mk' X G a7 l7 c7 k7
  have D_law_turned : Def K mg "_law_turned" s_law_turned := Def.mk' X G a8 l8 c8 k8
  have D_law_whole : Def K mg "_law_whole" s_law_whole := Def.mk' X G a9 l9 c9 k9
  have D_law_list : Def K mg "_law_list" s_law_list := Def.mk' X G a10 l10 c10 k10
  have D_law_cell_at : Def K mg "_law_cell_at" s_law_cell_at := Def.mk' X G a11 l11 c11 k11
  have D_law : Def K mg "law" s_law := Def.mk' X G a12 l12 c12 k12
  have z_ValueError := PySem.W.mg_none_of X G yz_ValueError
  have z_all := PySem.W.mg_none_of X G yz_all
  have z_bool := PySem.W.mg_none_of X G yz_bool
  have z_int := PySem.W.mg_none_of X G yz_int
  have z_isinstance := PySem.W.mg_none_of X G yz_isinstance
  have z_len := PySem.W.mg_none_of X G yz_len
  have z_list := PySem.W.mg_none_of X G yz_list
  have z_range := PySem.W.mg_none_of X G yz_range
  have z_set := PySem.W.mg_none_of X G yz_set
  have z_sorted := PySem.W.mg_none_of X G yz_sorted
  have z_str := PySem.W.mg_none_of X G yz_str
  have m_ShareError := PySem.W.mg_of X G aaCS
  have m_NoFraction := PySem.W.mg_of X G aaC1
  have m_NotBelow := PySem.W.mg_of X G aaC2
  have m_TooGreat := PySem.W.mg_of X G aaC3
  have m_BadText := PySem.W.mg_of X G aaC4
  have m_NotRising := PySem.W.mg_of X G aaC5
  have x_BadText := xC4
  have R_BadText : Raised K CS C1 C2 C3 C4 C5 C4 false false false true false := ⟨⟨xC4, gaC4, gxC4, faC4, fgg, ftt, moC4, mbC4⟩, exm_own xCS sBE suC4, k1C4, k2C4, k3C4, k4C4, k5C4, k6C4⟩
  have x_NotRising := xC5
  have R_NotRising : Raised K CS C1 C2 C3 C4 C5 C5 false false false false true := ⟨⟨xC5, gaC5, gxC5, faC5, fgg, ftt, moC5, mbC5⟩, exm_own xCS sBE suC5, k1C5, k2C5, k3C5, k4C5, k5C5, k6C5⟩
  have e := hfa.symm.trans (PySem.W.mg_of X G a12)
  cases e
  refine ⟨PySem.W.fnOf "law" "law" (defArgs s_law) (defBody s_law) (defScope s_law) .none kV12 dc12 pm12 an12 cd12 ct12, fun s v => .of_eq rfl, fun base _ _ => ?_⟩
  have c_is_number := cal_is_number (P := l.prog) (w := w) (K := K) (mg := mg) (base := base) D_is_number z_len z_all
  have c_read_share := cal_read_share (P := l.prog) (w := w) (K := K) (mg := mg) (base := base) D_read_share z_int m_BadText x_BadText c_is_number
  have c_rises := cal_rises (P := l.prog) (w := w) (K := K) (mg := mg) (base := base) D_rises z_len z_range
  have c_read := cal_read (P := l.prog) (w := w) (K := K) (mg := mg) (base := base) D_read m_NotRising x_NotRising c_rises c_read_share
  have c_law_kind := cal_law_kind (P := l.prog) (w := w) (K := K) (mg := mg) (base := base) D_law_kind m_ShareError m_NoFraction m_NotBelow m_TooGreat m_BadText m_NotRising z_isinstance z_ValueError
  have c_law_tried := cal_law_tried (P := l.prog) (w := w) (K := K) (mg := mg) (base := base) D_law_tried m_ShareError R_BadText R_NotRising c_read c_law_kind
  have c_law_due := cal_law_due (P := l.prog) (w := w) (K := K) (mg := mg) (base := base) D_law_due z_len z_int z_sorted z_set
  have c_law_odd := cal_law_odd (P := l.prog) (w := w) (K := K) (mg := mg) (base := base) D_law_odd
  have c_law_turned := cal_law_turned (P := l.prog) (w := w) (K := K) (mg := mg) (base := base) D_law_turned z_len c_law_odd
  have c_law_whole := cal_law_whole (P := l.prog) (w := w) (K := K) (mg := mg) (base := base) D_law_whole z_isinstance z_int z_bool
  have c_law_list := cal_law_list (P := l.prog) (w := w) (K := K) (mg := mg) (base := base) D_law_list z_isinstance z_list z_len z_range c_law_whole
  have c_law_cell_at := cal_law_cell_at (P := l.prog) (w := w) (K := K) (mg := mg) (base := base) D_law_cell_at z_len
  have C := ok_law (P := l.prog) (w := w) (K := K) (mg := mg) (base := base) D_law z_range z_str z_len c_law_cell_at c_law_turned c_law_due c_law_tried c_law_list
  exact Cal.law C (PySem.W.mg_of X G a12) l12
theorem walk {l : PySem.W.OpenLaw} {q : Program} {loose : List Str} {XP : (Str → Option Value) → Heap → Prop} {YP : World → Heap → Prop} {d : DefRec} {K : Params → PySem.W.Frag} (hn : l.most = some 63) (hdf : d.params.defaults = [])
    (hY : ∀ (w : World) (h : Heap), YP w h → (K w.params).In h)
    (F : ∀ (w : World) (mg : Str → Option Value) (fa : Addr) (h : Heap), (K w.params).In h → h.Ns mainGlobals mg → mg d.name = some (.ref fa) →
      ∃ fd : FuncData, (∀ (s : Shared) (u : Value), BindsTo s fd ⟨[u], []⟩ [("script", u)]) ∧ ∀ base : Heap, (K w.params).In base → base.Ns mainGlobals mg → FnOk l.prog w (K w.params) mg base CX0 10 fa fd ["script"] (sp_law (K w.params))) :
    PySem.W.WalkO q loose XP YP l.row.toRowW d [] (fun f vs => PySem.call f vs) :=
  L2.walk_of (n := 63) (k := 10) (x := "script") (CX := fun _ => CX0) (sp := fun w => sp_law (K w.params)) hn (by decide) hdf ⟨rfl, by decide, by decide⟩ hY F (fun _ _ a ns hl _ hS => ⟨a, ns, rfl, hS, hl, fun _ => rfl⟩) fun _ _ _ _ _ z => z
end Law
open PySem PySem.W PyProof.Rows
set_option maxRecDepth 100000 in
set_option maxHeartbeats 0 in
theorem PySem.Challenge.cw_unitshares_k14_read_holds : PySem.Challenge.rw_unitshares_k14_read.Holds := by
  w_on; o_law; k_head; (case hw => w_witness2)
  k_fill
  refine Law.walk (l := PySem.Challenge.rw_unitshares_k14_read) rfl rfl (fun w h Y => PySem.W.kIn_of Y) ?F
  case F =>
    intro w mg fa h KX G hmg
    refine' Law.all_mk KX G hmg ?a0 ?l0 ?c0 ?k0 ?a1 ?l1 ?c1 ?k1 ?a2 ?l2 ?c2 ?k2 ?a3 ?l3 ?c3 ?k3 ?a4 ?l4 ?c4 ?k4 ?a5 ?l5 ?c5 ?k5 ?a6 ?l6 ?c6 ?k6 ?a7 ?l7 ?c7 ?k7 ?a8 ?l8 ?c8 ?k8 ?a9 ?l9 ?c9 ?k9 ?a10 ?l10 ?c10 ?k10 ?a11 ?l11 ?c11 ?k11 ?a12 ?l12 ?c12 ?k12 ?aaCS ?aaC1 ?aaC2 ?aaC3 ?aaC4 ?aaC5 ?xCS ?sBE ?fgg ?ftt ?xC4 ?gaC4 ?gxC4 ?faC4 ?moC4 ?mbC4 ?suC4 ?k1C4 ?k2C4 ?k3C4 ?k4C4 ?k5C4 ?k6C4 ?xC5 ?gaC5 ?gxC5 ?faC5 ?moC5 ?mbC5 ?suC5 ?k1C5 ?k2C5 ?k3C5 ?k4C5 ?k5C5 ?k6C5 ?yz_ValueError ?yz_all ?yz_bool ?yz_int ?yz_isinstance ?yz_len ?yz_list ?yz_range ?yz_set ?yz_sorted ?yz_str
    (case a0 => k_is); (case l0 => k_is); (case c0 => k_is); (case k0 => k_is)
    (case a1 => k_is); (case l1 => k_is); (case c1 => k_is); (case k1 => k_is)
    (case a2 => k_is); (case l2 => k_is); (case c2 => k_is); (case k2 => k_is)
    (case a3 => k_is); (case l3 => k_is); (case c3 => k_is); (case k3 => k_is)
    (case a4 => k_is); (case l4 => k_is); (case c4 => k_is); (case k4 => k_is)
    (case a5 => k_is); (case l5 => k_is); (case c5 => k_is); (case k5 => k_is)
    (case a6 => k_is); (case l6 => k_is); (case c6 => k_is); (case k6 => k_is)
    (case a7 => k_is); (case l7 => k_is); (case c7 => k_is); (case k7 => k_is)
    (case a8 => k_is); (case l8 => k_is); (case c8 => k_is); (case k8 => k_is)
    (case a9 => k_is); (case l9 => k_is); (case c9 => k_is); (case k9 => k_is)
    (case a10 => k_is); (case l10 => k_is); (case c10 => k_is); (case k10 => k_is)
    (case a11 => k_is); (case l11 => k_is); (case c11 => k_is); (case k11 => k_is)
    (case a12 => k_is); (case l12 => k_is); (case c12 => k_is); (case k12 => k_is)
    (case aaCS => k_is)
    (case aaC1 => k_is)
    (case aaC2 => k_is)
    (case aaC3 => k_is)
    (case aaC4 => k_is)
    (case aaC5 => k_is)
    (case xCS => k_exc)
    (case sBE => k_is)
    (case fgg => k_is)
    (case ftt => k_is)
    (case xC4 => k_exc)
    (case gaC4 => k_is)
    (case gxC4 => k_is)
    (case faC4 => k_is)
    (case moC4 => k_is)
    (case mbC4 => k_is)
    (case suC4 => k_is)
    (case k1C4 => kit_is)
    (case k2C4 => kit_is)
    (case k3C4 => kit_is)
    (case k4C4 => kit_is)
    (case k5C4 => kit_is)
    (case k6C4 => kit_is)
    (case xC5 => k_exc)
    (case gaC5 => k_is)
    (case gxC5 => k_is)
    (case faC5 => k_is)
    (case moC5 => k_is)
    (case mbC5 => k_is)
    (case suC5 => k_is)
    (case k1C5 => kit_is)
    (case k2C5 => kit_is)
    (case k3C5 => kit_is)
    (case k4C5 => kit_is)
    (case k5C5 => kit_is)
    (case k6C5 => kit_is)
    (case yz_ValueError => k_is)
    (case yz_all => k_is)
    (case yz_bool => k_is)
    (case yz_int => k_is)
    (case yz_isinstance => k_is)
    (case yz_len => k_is)
    (case yz_list => k_is)
    (case yz_range => k_is)
    (case yz_set => k_is)
    (case yz_sorted => k_is)
    (case yz_str => k_is)
