import PyProof.Rows.All
import Wide.All
import OpenK.AllK
import Wide.FinOn
import Lean
import PyProof.EqAt
import PyProof.EqKinds
import PyProof.TupleCall
import PySem.Challenge.RW_tabstops_k04_pressed_rows
set_option Elab.async false
set_option linter.all false
set_option maxRecDepth 100000
/-! THE HAND LAYER, for ints, bools, texts, own classes, LISTS and tuples (index, slices, in, append, pop ..), calls, loops. Paste it whole ahead of your own text; what your proof does not reach may be deleted. -/
namespace L2
open PySem PySem.Spec PyProof.Rows

/-- a key: an int or a str -/
abbrev Key := Sum Int Str
def keyIs : Key → Value → Bool
  | .inl k, v => Value.isInt k v
  | .inr x, v => Value.isStrOf x v
def keyH (w : World) : Key → Int
  | .inl k => hashInt k
  | .inr x => hashStr w x
theorem keyIs_shape : ∀ {k : Key} {v : Value}, keyIs k v = true → (∃ i t, k = Sum.inl i ∧ v = Value.int i t) ∨ (∃ x t, k = Sum.inr x ∧ v = Value.str x t)
  | .inl i, v, h => by
    obtain ⟨t, e⟩ := Value.isInt_shape (k := i) (v := v) h
    exact .inl ⟨i, t, rfl, e⟩
  | .inr x, v, h => by
    obtain ⟨t, e⟩ := Value.isStrOf_shape (x := x) (v := v) h
    exact .inr ⟨x, t, rfl, e⟩
theorem keyIs_int (i : Int) (t : Tok) : keyIs (.inl i) (.int i t) = true := by simp [keyIs, Value.isInt]
theorem keyIs_str (x : Str) (t : Tok) : keyIs (.inr x) (.str x t) = true := by simp [keyIs, Value.isStrOf]
theorem key_ll (a b : Int) : decide ((Sum.inl a : Key) = Sum.inl b) = (a == b) := by
  by_cases e : a = b
  · subst e; simp
  · have h : ¬ (Sum.inl a : Key) = Sum.inl b := fun q => e (Sum.inl.inj q)
    rw [decide_eq_false h]
    exact (beq_eq_false_iff_ne.mpr e).symm
theorem key_rr (a b : Str) : decide ((Sum.inr a : Key) = Sum.inr b) = decide (a = b) := by
  by_cases e : a = b
  · subst e; simp
  · have h : ¬ (Sum.inr a : Key) = Sum.inr b := fun q => e (Sum.inr.inj q)
    rw [decide_eq_false h, decide_eq_false e]
theorem key_lr (a : Int) (b : Str) : decide ((Sum.inl a : Key) = Sum.inr b) = false := decide_eq_false (fun q => nomatch q)
theorem key_rl (a : Str) (b : Int) : decide ((Sum.inr a : Key) = Sum.inl b) = false := decide_eq_false (fun q => nomatch q)

def mixKind (prog : Program) (w : World) : PySem.KeyKind prog w Key where
  is := keyIs
  hash := keyH w
  inj := fun v a b ha hb => by
    rcases keyIs_shape ha with ⟨i, t, rfl, rfl⟩ | ⟨x, t, rfl, rfl⟩
    · rcases keyIs_shape hb with ⟨j, u, rfl, e⟩ | ⟨y, u, rfl, e⟩
      · injection e with e1 _; rw [e1]
      · exact nomatch e
    · rcases keyIs_shape hb with ⟨j, u, rfl, e⟩ | ⟨y, u, rfl, e⟩
      · exact nomatch e
      · injection e with e1 _; rw [e1]
  byValue := fun k v h => by
    rcases keyIs_shape h with ⟨i, t, rfl, rfl⟩ | ⟨x, t, rfl, rfl⟩ <;> rfl
  pyHash := fun hv h => by
    rcases keyIs_shape hv with ⟨i, t, rfl, rfl⟩ | ⟨x, t, rfl, rfl⟩
    · exact wpAny_pyHash_int h
    · exact wpAny_pyHash_str h
  eqBool := fun hu hv h => by
    rcases keyIs_shape hu with ⟨i, t, rfl, rfl⟩ | ⟨x, t, rfl, rfl⟩
    · rcases keyIs_shape hv with ⟨j, u, rfl, rfl⟩ | ⟨y, u, rfl, rfl⟩
      · rw [key_ll] at h; exact wpAny_eqBool_int h
      · rw [key_lr] at h; exact SeqAt.EqAt.int_str i t y u _ _ _ _ h
    · rcases keyIs_shape hv with ⟨j, u, rfl, rfl⟩ | ⟨y, u, rfl, rfl⟩
      · rw [key_rl] at h; exact SeqAt.EqAt.str_int x t j u _ _ _ _ h
      · rw [key_rr] at h; exact wpAny_eqBool_str h
  «strs» := fun k x t v h => by
    rcases keyIs_shape h with ⟨i, u, rfl, e⟩ | ⟨y, u, rfl, e⟩
    · exact nomatch e
    · injection e with e1 _
      subst e1
      cases v <;> rfl

theorem mixKind_is (prog : Program) (w : World) (k : Key) (v : Value) : (mixKind prog w).is k v = keyIs k v := rfl
theorem mixKind_int (prog : Program) (w : World) (i : Int) (t : Tok) : (mixKind prog w).is (.inl i) (.int i t) = true := keyIs_int i t
theorem mixKind_str (prog : Program) (w : World) (x : Str) (t : Tok) : (mixKind prog w).is (.inr x) (.str x t) = true := keyIs_str x t
end L2

namespace L2
open PySem PySem.Spec PyProof.Rows

/-- a value, without the heap -/
inductive V where
  | non | bl (b : Bool) | int (i : Int) | str (x : Str) | byt (b : Array UInt8) | flt (b : UInt64) | ref (a : Addr) | ty (n : String)
  deriving DecidableEq

def RelV : V → Value → Prop
  | .non, u => u = Value.none
  | .bl b, u => u = Value.bool b
  | .int i, u => ∃ t, u = Value.int i t
  | .str x, u => ∃ t, u = Value.str x t
  | .byt b, u => ∃ t, u = Value.bytes b t
  | .flt b, u => ∃ t, u = Value.float b t
  | .ref a, u => u = Value.ref a
  | .ty n, u => u = Value.type n

abbrev Vals : List V → List Value → Prop := Paired RelV
theorem Vals.length {xs : List V} {us : List Value} (r : Vals xs us) : xs.length = us.length := Paired.length r
theorem Vals.get : ∀ {xs : List V} {us : List Value} {i : Nat} {x : V}, Vals xs us → xs[i]? = some x → ∃ u, us[i]? = some u ∧ RelV x u
  | _, _, _, _, .nil, e => by simp at e
  | _, _, 0, _, .cons r _, e => by simp at e; subst e; exact ⟨_, rfl, r⟩
  | _, _, i + 1, x, .cons _ t, e => by
    obtain ⟨u, h1, h2⟩ := Vals.get (i := i) (x := x) t (by simpa using e)
    exact ⟨u, by simpa using h1, h2⟩
theorem Vals.set {x : V} {u : Value} (r : RelV x u) : ∀ {xs : List V} {us : List Value} (i : Nat), Vals xs us → Vals (xs.set i x) (us.set i u)
  | _, _, _, .nil => .nil
  | _, _, 0, .cons _ t => .cons r t
  | _, _, i + 1, .cons q t => .cons q (Vals.set r i t)
theorem Vals.append : ∀ {xs ys : List V} {us ws : List Value}, Vals xs us → Vals ys ws → Vals (xs ++ ys) (us ++ ws)
  | _, _, _, _, .nil, s => s
  | _, _, _, _, .cons r t, s => .cons r (Vals.append t s)
theorem Vals.take : ∀ {xs : List V} {us : List Value} (n : Nat), Vals xs us → Vals (xs.take n) (us.take n)
  | _, _, 0, _ => .nil
  | _, _, _ + 1, .nil => .nil
  | _, _, n + 1, .cons r t => .cons r (Vals.take n t)
theorem Vals.drop : ∀ {xs : List V} {us : List Value} (n : Nat), Vals xs us → Vals (xs.drop n) (us.drop n)
  | _, _, 0, r => r
  | _, _, _ + 1, .nil => .nil
  | _, _, n + 1, .cons _ t => Vals.drop n t
theorem Vals.none_of : ∀ {xs : List V} {us : List Value} {i : Nat}, Vals xs us → xs[i]? = none → us[i]? = none := fun {xs us i} r e => by
  have h1 := r.length
  have h2 : xs.length ≤ i := List.getElem?_eq_none_iff.mp e
  exact List.getElem?_eq_none_iff.mpr (by omega)

def RelO : Option V → Option Value → Prop
  | some v, some u => RelV v u
  | none, none => True
  | _, _ => False
def KV {κ : Type} : List (κ × V) → List (κ × Value) → Prop := Paired fun (p : κ × V) (q : κ × Value) => p.1 = q.1 ∧ RelV p.2 q.2

/-- a key of a dict (00_mix): an int or a text -/
def kV : Key → V
  | .inl i => .int i
  | .inr x => .str x

/-- what stands at a tracked address -/
inductive HO where
  /-- a list -/
  | lst (xs : List V)
  /-- a tuple (never changes) -/
  | tup (xs : List V)
  /-- a dict whose keys are ints and texts; one whose keys are tuples of ints and texts (the empty one is both) -/
  | dK (kvs : List (Key × V)) | dT (kvs : List (List Key × V))
  /-- a set of ints: its members, its size -/
  | set (S : Int → Bool) (n : Nat)
  /-- an instance of the class at C, its dict at dx, its attributes -/
  | ins (C dx : Addr) (fs : List (Str × V))
  /-- the dict of the instance at x -/
  | own (x : Addr)
  /-- the dict of an exception -/
  | xd (fs : List (Str × V))
  /-- a bound method, f of x -/
  | met (f x : Addr)
  /-- a range object lo, lo + 1, .. below hi -/
  | rng (lo hi : Int)
  /-- a thing that is known to the object (the script; a dict while a loop walks it): read, never written while it is so -/
  | frz (o : Obj) (u : HO)
  /-- a code object's table -/
  | tbl (ps : Array Value)
  /-- any other thing, by what is true of its one object (a def of one's own: SetO a S n := HO.ext fun h => ..) -/
  | ext (φ : Heap → Prop)

abbrev Hp := Addr → Option HO
def upd (H : Hp) (a : Addr) (o : HO) : Hp := fun b => if b = a then some o else H b
theorem upd_same {H : Hp} {a : Addr} {o : HO} : upd H a o a = some o := by unfold upd; rw [if_pos rfl]
theorem upd_ne {H : Hp} {a b : Addr} {o : HO} (h : b ≠ a) : upd H a o b = H b := by unfold upd; rw [if_neg h]
theorem upd_upd {H : Hp} {a : Addr} {o u : HO} : upd (upd H a o) a u = upd H a u := by
  funext b; unfold upd; split <;> rfl
/-- two objects of different content stand apart -/
theorem ne_of {H : Hp} {a b : Addr} {o u : HO} (h : H a = some o) (h' : H b = some u) (d : o ≠ u) : a ≠ b := by
  intro e; subst e; rw [h] at h'; exact d (Option.some.inj h')
theorem ne_of_none {H : Hp} {a b : Addr} {o : HO} (h : H a = some o) (h' : H b = none) : a ≠ b := by
  intro e; subst e; rw [h] at h'; cases h'

section
variable (P : Program) (w : World)
def ObjOk (H : Hp) (h : Heap) (a : Addr) : HO → Prop
  | .lst xs => xs.length ≤ sizeLine ∧ ∃ (its : List Value) (n : Nat), Vals xs its ∧ h.get? a = some { cls := .type "list", data := .seq its.toArray n }
  | .tup xs => xs.length ≤ sizeLine ∧ ∃ its : List Value, Vals xs its ∧ IsTup h a its.toArray
  | .dK kvs => kvs.length ≤ sizeLine ∧ (a == sysModules) = false ∧ ∃ vs, KV kvs vs ∧ h.DictOf (mixKind P w) a vs
  | .dT kvs => kvs.length ≤ sizeLine ∧ (a == sysModules) = false ∧ ∃ xs : List (List Key × Addr × Value),
      Paired (fun (p : List Key × V) (q : List Key × Addr × Value) => p.1 = q.1 ∧ H q.2.1 = some (.tup (p.1.map kV)) ∧ RelV p.2 q.2.2) kvs xs ∧
      ∃ o es ep, h.get? a = some o ∧ o.ExactDict ∧ o.data = .dict es ep ∧ es.toList = xs.map (entryOfKey (tupleKind (mixKind P w))) ∧ (xs.map (·.1)).Nodup
  | .set S n => h.SetOf (intKind P w) a S n
  | .ins C dx fs => H dx = some (.own a) ∧ fs.length ≤ 1000 ∧ dx ≠ a ∧ h.get? a = some (PySem.W.instObj C dx) ∧
      ∃ mA, h.Ns1 dx mA ∧ (∀ f, RelO (fs.lookup f) (mA f)) ∧ PySem.Within mA (fs.map (·.1))
  | .own _ => ∃ o, h.get? a = some o
  | .xd fs => ∃ mA, h.Ns1 a mA ∧ ∀ f, RelO (fs.lookup f) (mA f)
  | .rng lo hi => ∃ t u v, h.get? a = some { cls := .type "range", data := .fields #[.int lo t, .int hi u, .int 1 v] }
  | .frz o u => h.get? a = some o ∧ ObjOk H h a u
  | .tbl ps => h.get? a = some { cls := .none, data := .fields ps }
  | .met f x => h.get? a = some (PySem.W.methodObj (.ref f) (.ref x))
  | .ext φ => φ h ∧ (∃ o, h.get? a = some o) ∧ ∀ h1 h2 : Heap, φ h1 → (∀ o, h1.get? a = some o → h2.get? a = some o) → φ h2
/-- the abstract heap is held -/
def HOk (H : Hp) (h : Heap) : Prop := ∀ a o, H a = some o → ObjOk P w H h a o
end

section
variable {P : Program} {w : World} {H H' : Hp} {h h' : Heap} {a : Addr} {o : HO}
theorem ObjOk.lt (x : ObjOk P w H h a o) : a < h.objs.size := by
  cases o with
  | lst xs => obtain ⟨_, _, _, _, e⟩ := x; exact Heap.lt_size e
  | tup xs => obtain ⟨_, _, _, p⟩ := x; exact p.lt
  | dK kvs => obtain ⟨_, _, _, _, o, _, _, e, _⟩ := x; exact Heap.lt_size e
  | dT kvs => obtain ⟨_, _, _, _, o, _, _, e, _⟩ := x; exact Heap.lt_size e
  | set S n => obtain ⟨o, _, _, _, e, _⟩ := x; exact Heap.lt_size e
  | ins C dx fs => obtain ⟨_, _, _, e, _⟩ := x; exact Heap.lt_size e
  | own y => obtain ⟨_, e⟩ := x; exact Heap.lt_size e
  | xd fs => obtain ⟨_, ⟨_, _, _, e, _⟩, _⟩ := x; exact Heap.lt_size e
  | rng lo hi => obtain ⟨_, _, _, e⟩ := x; exact Heap.lt_size e
  | frz ob u => obtain ⟨e, _⟩ := x; exact Heap.lt_size e
  | tbl ps => exact Heap.lt_size (show h.get? a = some _ from x)
  | met f y => exact Heap.lt_size (show h.get? a = some _ from x)
  | ext φ => obtain ⟨_, ⟨_, e⟩, _⟩ := x; exact Heap.lt_size e
theorem Paired.mapP {α β : Type} {F G : α → β → Prop} : ∀ {l₁ : List α} {l₂ : List β}, Paired F l₁ l₂ → (∀ a b, F a b → G a b) → Paired G l₁ l₂
  | _, _, .nil, _ => .nil
  | _, _, .cons r t, f => .cons (f _ _ r) (Paired.mapP t f)
theorem Paired.imp' {α β : Type} {F G : α → β → Prop} (f : ∀ a b, F a b → G a b) {l₁ : List α} {l₂ : List β} (r : Paired F l₁ l₂) : Paired G l₁ l₂ := Paired.mapP r f
/-- what an object's description leans on: its own object, its own dict, the tuples -/
theorem ObjOk.stay (x : ObjOk P w H h a o) (k : ∀ b u, (b = a ∨ H b = some (.own a)) → h.get? b = some u → h'.get? b = some u)
    (ho : ∀ b, H b = some (.own a) → H' b = some (.own a)) (ht : ∀ b xs, H b = some (.tup xs) → H' b = some (.tup xs)) : ObjOk P w H' h' a o := by
  induction o with
  | lst xs => obtain ⟨z, its, n, r, e⟩ := x; exact ⟨z, its, n, r, k _ _ (.inl rfl) e⟩
  | tup xs => obtain ⟨z, its, r, ob, e, c⟩ := x; exact ⟨z, its, r, ob, k _ _ (.inl rfl) e, c⟩
  | dK kvs => obtain ⟨z, y, vs, r, ob, es, ep, e, c⟩ := x; exact ⟨z, y, vs, r, ob, es, ep, k _ _ (.inl rfl) e, c⟩
  | dT kvs =>
    obtain ⟨z, y, xs, r, ob, es, ep, e, c⟩ := x
    exact ⟨z, y, xs, Paired.mapP r fun p q z => ⟨z.1, ht _ _ z.2.1, z.2.2⟩, ob, es, ep, k _ _ (.inl rfl) e, c⟩
  | set S n => obtain ⟨ob, es, ep, t, e, c⟩ := x; exact ⟨ob, es, ep, t, k _ _ (.inl rfl) e, c⟩
  | ins C dx fs =>
    obtain ⟨d, z, ne, e, mA, ⟨od, es, ep, e2, c⟩, r⟩ := x
    exact ⟨ho _ d, z, ne, k _ _ (.inl rfl) e, mA, ⟨od, es, ep, k _ _ (.inr d) e2, c⟩, r⟩
  | own y => obtain ⟨ob, e⟩ := x; exact ⟨ob, k _ _ (.inl rfl) e⟩
  | xd fs => obtain ⟨mA, ⟨od, es, ep, e, c⟩, r⟩ := x; exact ⟨mA, ⟨od, es, ep, k _ _ (.inl rfl) e, c⟩, r⟩
  | rng lo hi => obtain ⟨t, u, v, e⟩ := x; exact ⟨t, u, v, k _ _ (.inl rfl) e⟩
  | frz ob u ih => obtain ⟨e, q⟩ := x; exact ⟨k _ _ (.inl rfl) e, ih q⟩
  | tbl ps =>
    have e : h.get? a = some { cls := .none, data := .fields ps } := x
    show h'.get? a = some { cls := .none, data := .fields ps }
    exact k a _ (.inl rfl) e
  | met f y =>
    have e : h.get? a = some (PySem.W.methodObj (.ref f) (.ref y)) := x
    show h'.get? a = some (PySem.W.methodObj (.ref f) (.ref y))
    exact k a _ (.inl rfl) e
  | ext φ => obtain ⟨p, ⟨o, e⟩, st⟩ := x; exact ⟨st _ _ p fun o q => k _ _ (.inl rfl) q, ⟨o, k _ _ (.inl rfl) e⟩, st⟩
theorem HOk.lt (x : HOk P w H h) (e : H a = some o) : a < h.objs.size := (x a o e).lt
theorem HOk.fresh (x : HOk P w H h) (e : h.objs.size ≤ a) : H a = none := by
  cases q : H a with
  | none => rfl
  | some u => exact absurd (Nat.lt_of_lt_of_le (x.lt q) e) (Nat.lt_irrefl _)
/-- every object of the heap is kept -/
theorem HOk.kept (x : HOk P w H h) (k : ∀ b u, h.get? b = some u → h'.get? b = some u) : HOk P w H h' := fun a o e =>
  (x a o e).stay (fun b u _ q => k b u q) (fun _ q => q) fun _ _ q => q
/-- a new object is laid and tracked -/
theorem HOk.laid (x : HOk P w H h) (k : ∀ b u, h.get? b = some u → h'.get? b = some u) (hp : h.objs.size ≤ a) (new : ObjOk P w (upd H a o) h' a o) : HOk P w (upd H a o) h' := fun b u e => by
  have hn := x.fresh hp
  by_cases hb : b = a
  · subst hb; rw [upd_same] at e; cases e; exact new
  · rw [upd_ne hb] at e
    exact (x b u e).stay (fun c v _ q => k c v q) (fun c q => by rw [upd_ne (ne_of_none q hn)]; exact q) fun c xs q => by rw [upd_ne (ne_of_none q hn)]; exact q
end

/-- what may be read as u: it is u, or a known u -/
def Rd (H : Hp) (a : Addr) (u : HO) : Prop := H a = some u ∨ ∃ o, H a = some (.frz o u)
theorem Rd.of {H : Hp} {a : Addr} {u : HO} (h : H a = some u) : Rd H a u := .inl h
theorem Rd.ok {P : Program} {w : World} {H : Hp} {h : Heap} {a : Addr} {u : HO} (r : Rd H a u) (x : HOk P w H h) : ObjOk P w H h a u := by
  rcases r with r | ⟨o, r⟩
  · exact x a u r
  · obtain ⟨_, q⟩ := x a _ r
    exact q
/-- what may be written -/
def Mut : Option HO → Prop
  | some (.lst _) => True
  | some (.dK _) => True
  | some (.dT _) => True
  | some (.set _ _) => True
  | some (.ins _ _ _) => True
  | some (.ext _) => True
  | _ => False
section
variable {P : Program} {w : World} {H : Hp} {h h' : Heap} {x e : Addr} {o' : HO}
/-- the object at e is changed: x itself, or the dict of the instance x -/
theorem HOk.write (ok : HOk P w H h) (mu : Mut (H x)) (he : e = x ∨ H e = some (.own x)) (k : ∀ b u, b ≠ e → h.get? b = some u → h'.get? b = some u) (heo : ∃ u, h'.get? e = some u)
    (new : ObjOk P w (upd H x o') h' x o') : HOk P w (upd H x o') h' := fun b u q => by
  have nown : ∀ c y, H c = some (.own y) → c ≠ x := fun c y r z => by subst z; rw [r] at mu; exact mu
  have ntup : ∀ c xs, H c = some (.tup xs) → c ≠ x := fun c xs r z => by subst z; rw [r] at mu; exact mu
  by_cases hb : b = x
  · subst hb; rw [upd_same] at q; cases q; exact new
  · rw [upd_ne hb] at q
    by_cases hbe : b = e
    · have q' : H b = some (.own x) := by
        rcases he with z | z
        · exact absurd (hbe.trans z) hb
        · rw [hbe]; exact z
      rw [q] at q'; cases q'
      obtain ⟨v, hv⟩ := heo
      exact ⟨v, by rw [hbe]; exact hv⟩
    · refine (ok b u q).stay (fun c v hc r => k c v ?_ r) (fun c r => by rw [upd_ne (nown c b r)]; exact r) fun c xs r => by rw [upd_ne (ntup c xs r)]; exact r
      rcases hc with rfl | hc
      · exact hbe
      · rintro rfl
        rcases he with z | z
        · exact nown c b hc z
        · rw [hc] at z; cases z; exact hb rfl
end

/-! ### kept unless tracked; of the frames at fs (the callers') the slots may change (an exception that passes writes there); of the records at ex (iterators) nothing is said -/
structure Un (fs ex : List Addr) (H H' : Hp) (h h' : Heap) : Prop where
  keep : ∀ b o, h.get? b = some o → H b = none → b ∉ fs → b ∉ ex → h'.get? b = some o
  slot : ∀ b o, h.get? b = some o → H b = none → b ∈ fs → b ∉ ex → ∃ sl, h'.get? b = some { o with slots := sl }
  free : ∀ b o, h.get? b = some o → H b = none → b ∉ ex → H' b = none
  there : ∀ b o, h.get? b = some o → b ∉ ex → ∃ o', h'.get? b = some o'
  tups : ∀ b xs, H b = some (.tup xs) → H' b = some (.tup xs)
  frzs : ∀ b o u, H b = some (.frz o u) → H' b = some (.frz o u)
  tbls : ∀ b ps, H b = some (.tbl ps) → ∃ more, H' b = some (.tbl (ps ++ more))
section
variable {fs fs' ex ex' : List Addr} {H H1 H2 : Hp} {h h1 h2 h' : Heap} {a x e : Addr} {o : HO}
theorem Un.any (u : Un fs ex H H1 h h1) {b : Addr} {ob : Obj} (q : h.get? b = some ob) (n : H b = none) (hx : b ∉ ex) : ∃ sl, h1.get? b = some { ob with slots := sl } := by
  by_cases hb : b ∈ fs
  · exact u.slot b ob q n hb hx
  · exact ⟨ob.slots, u.keep b ob q n hb hx⟩
theorem Un.trans (a : Un fs ex H H1 h h1) (b : Un fs ex H1 H2 h1 h2) : Un fs ex H H2 h h2 where
  keep := fun c ob q n hc hx => b.keep c ob (a.keep c ob q n hc hx) (a.free c ob q n hx) hc hx
  slot := fun c ob q n hc hx => by
    obtain ⟨sl, e1⟩ := a.slot c ob q n hc hx
    obtain ⟨sl', e2⟩ := b.slot c _ e1 (a.free c ob q n hx) hc hx
    exact ⟨sl', e2⟩
  free := fun c ob q n hx => by
    obtain ⟨o', e1⟩ := a.there c ob q hx
    exact b.free c o' e1 (a.free c ob q n hx) hx
  there := fun c ob q hx => by
    obtain ⟨o', e1⟩ := a.there c ob q hx
    exact b.there c o' e1 hx
  tups := fun c xs q => b.tups c xs (a.tups c xs q)
  frzs := fun c ob xs q => b.frzs c ob xs (a.frzs c ob xs q)
  tbls := fun c ps q => by
    obtain ⟨m1, e1⟩ := a.tbls c ps q
    obtain ⟨m2, e2⟩ := b.tbls c _ e1
    exact ⟨m1 ++ m2, by rw [e2, Array.append_assoc]⟩
theorem Un.kept (k : ∀ b u, h.get? b = some u → h'.get? b = some u) : Un fs ex H H h h' :=
  ⟨fun b ob q _ _ _ => k b ob q, fun b ob q _ _ _ => ⟨ob.slots, k b ob q⟩, fun _ _ _ n _ => n, fun b ob q _ => ⟨ob, k b ob q⟩, fun _ _ q => q, fun _ _ _ q => q, fun _ ps q => ⟨#[], by rw [q]; simp⟩⟩
theorem Un.refl : Un fs ex H H h h := Un.kept fun _ _ q => q
theorem Un.laid (k : ∀ b u, h.get? b = some u → h'.get? b = some u) (hp : h.objs.size ≤ a) (hn : H a = none) : Un fs ex H (upd H a o) h h' where
  keep := fun b u q _ _ _ => k b u q
  slot := fun b u q _ _ _ => ⟨u.slots, k b u q⟩
  free := fun b u q n _ => by rw [upd_ne (Nat.ne_of_lt (Nat.lt_of_lt_of_le (Heap.lt_size q) hp))]; exact n
  there := fun b u q _ => ⟨u, k b u q⟩
  tups := fun b xs q => by rw [upd_ne (ne_of_none q hn)]; exact q
  frzs := fun b u xs q => by rw [upd_ne (ne_of_none q hn)]; exact q
  tbls := fun b ps q => ⟨#[], by rw [upd_ne (ne_of_none q hn), q]; simp⟩
theorem Un.write (mu : Mut (H x)) (he : e = x ∨ H e = some (.own x)) (k : ∀ b u, b ≠ e → h.get? b = some u → h'.get? b = some u) (heo : ∃ u, h'.get? e = some u) : Un fs ex H (upd H x o) h h' := by
  have hx : ∀ b, H b = none → b ≠ x := fun b n z => by subst z; rw [n] at mu; exact mu
  have hb : ∀ b, H b = none → b ≠ e := fun b n z => by
    subst z
    rcases he with r | r
    · exact hx b n r
    · rw [n] at r; cases r
  have hm : ∀ b u, H b = some u → ¬ Mut (some u) → b ≠ x := fun b u q nm z => by subst z; rw [q] at mu; exact nm mu
  refine ⟨fun b u q n _ _ => k b u (hb b n) q, fun b u q n _ _ => ⟨u.slots, k b u (hb b n) q⟩, fun b u q n _ => by rw [upd_ne (hx b n)]; exact n, fun b u q _ => ?_,
    fun b xs q => by rw [upd_ne (hm b _ q fun z => z)]; exact q, fun b u xs q => by rw [upd_ne (hm b _ q fun z => z)]; exact q, fun b ps q => ⟨#[], by rw [upd_ne (hm b _ q fun z => z), q]; simp⟩⟩
  by_cases hbe : b = e
  · subst hbe; exact heo
  · exact ⟨u, k b u hbe q⟩
theorem Un.mono (u : Un fs ex H H1 h h1) (hs : ∀ b ∈ fs, b ∈ fs') (hx : ∀ b ∈ ex, b ∈ ex') : Un fs' ex' H H1 h h1 :=
  ⟨fun b ob q n hb he => u.keep b ob q n (fun z => hb (hs b z)) fun z => he (hx b z), fun _ _ q n _ he => u.any q n fun z => he (hx _ z), fun b ob q n he => u.free b ob q n fun z => he (hx b z), fun b ob q he => u.there b ob q fun z => he (hx b z), u.tups, u.frzs, u.tbls⟩
end

/-! ### the heap without what is tracked -/
def trk (h : Heap) (H : Hp) : List Addr := (List.range h.objs.size).filter fun a => (H a).isSome
def hidT (h : Heap) (H : Hp) : Heap := PySem.W.hideAll h (trk h H)
theorem hidT_size (h : Heap) (H : Hp) : (hidT h H).objs.size = h.objs.size := PySem.W.hideAll_size _ _
theorem hidT_get {h : Heap} {H : Hp} {b : Addr} {o : Obj} (e : h.get? b = some o) (n : H b = none) : (hidT h H).get? b = some o :=
  PySem.W.hideAll_get _ e fun hm => by
    have q : (H b).isSome = true := (List.mem_filter.mp hm).2
    rw [n] at q; simp at q
theorem of_hidT {h : Heap} {H : Hp} {b : Addr} {o : Obj} (e : (hidT h H).get? b = some o) : h.get? b = some o ∧ H b = none := by
  have e' : h.get? b = some o := PySem.W.of_hideAll (trk h H) e
  refine ⟨e', ?_⟩
  cases q : H b with
  | none => rfl
  | some x =>
    have hm : b ∈ trk h H := List.mem_filter.mpr ⟨List.mem_range.mpr (Heap.lt_size e'), by simp [q]⟩
    have z : (hidT h H).get? b = none := PySem.W.hideAll_none (trk h H) hm
    rw [z] at e; cases e

/-! ### OpenK's ledger, filled with every new object but one -/
def allNews (g h : Heap) (L : Addr) : List (Addr × Obj) := (List.range h.objs.size).filterMap fun a => if a = L ∨ (g.get? a).isSome = true then none else (h.get? a).map fun o => (a, o)
theorem mem_allNews {g h : Heap} {L a : Addr} {o : Obj} (h1 : a ≠ L) (h2 : g.get? a = none) (h3 : h.get? a = some o) : (a, o) ∈ allNews g h L :=
  List.mem_filterMap.mpr ⟨a, List.mem_range.mpr (Heap.lt_size h3), by simp [h1, h2, h3]⟩
theorem of_mem_allNews {g h : Heap} {L : Addr} {p : Addr × Obj} (hp : p ∈ allNews g h L) : p.1 ≠ L ∧ g.get? p.1 = none ∧ h.get? p.1 = some p.2 := by
  obtain ⟨b, _, e⟩ := List.mem_filterMap.mp hp
  split at e
  · cases e
  · rename_i hn
    cases q : h.get? b with
    | none => rw [q] at e; simp at e
    | some u =>
      rw [q] at e
      simp only [Option.map_some, Option.some.injEq] at e
      subst e
      refine ⟨fun z => hn (.inl z), ?_, q⟩
      show g.get? b = none
      cases r : g.get? b with
      | none => rfl
      | some v => exact (hn (.inr (by simp [r]))).elim
def rest (g h : Heap) (L d : Addr) : List (Addr × Obj) := (allNews g h L).filter fun p => decide (p.1 ≠ d)
theorem rest_ne {g h : Heap} {L d : Addr} : ∀ p ∈ rest g h L d, p.1 ≠ d := fun p hp => of_decide_eq_true (List.mem_filter.mp hp).2
theorem mem_rest {g h : Heap} {L d a : Addr} {o : Obj} (h1 : a ≠ L) (h2 : g.get? a = none) (h3 : h.get? a = some o) (h4 : a ≠ d) : (a, o) ∈ rest g h L d :=
  List.mem_filter.mpr ⟨mem_allNews h1 h2 h3, decide_eq_true h4⟩
theorem news_all {g h : Heap} {L : Addr} : News g L h (allNews g h L) := fun p hp => let ⟨a, b, c⟩ := of_mem_allNews hp; ⟨c, a, b⟩
theorem news_at {g h : Heap} {L d : Addr} {o : Obj} (h1 : d ≠ L) (h2 : g.get? d = none) (h3 : h.get? d = some o) : News g L h ((d, o) :: rest g h L d) := fun p hp => by
  rcases List.mem_cons.mp hp with rfl | hp
  · exact ⟨h3, h1, h2⟩
  · exact news_all p (List.mem_filter.mp hp).1
/-- behind a rule that changed d alone: all else but the frame is kept -/
theorem kept_of_news {g h h' : Heap} {L d : Addr} {m : Str → Option Value} (k : ∀ b o, g.get? b = some o → h.get? b = some o) (F : Fr g L h' m) (N : News g L h' (rest g h L d)) :
    ∀ b o, b ≠ L → b ≠ d → h.get? b = some o → h'.get? b = some o := fun b o h1 h2 e => by
  cases q : g.get? b with
  | some u =>
    have := k b u q
    rw [e] at this; cases this
    exact F.keep b _ q
  | none => exact (N (b, o) (mem_rest h1 q e h2)).1
end L2

namespace L2
open PySem PySem.Spec PyProof.Rows

/-- the module's facts, over the base: the heap at the law's entry without what is tracked there -/
structure Mod (K : PySem.W.Frag) (mg : Str → Option Value) (base : Heap) : Prop where
  kin : K.In base
  glob : base.Ns mainGlobals mg
  blt : ∃ mb, base.Ns builtinsNs mb ∧ ∀ x : Str, x ≠ "__name__" → mb x = bootBuiltins x
  nolimit : base.NoLimit

/-- the context: a def's body (or a comprehension's block) running. base: fixed through the whole law; s₀, H₀: the entry; outer: the frames whose slots others may change (a def's callers); stack: all frames that run;
   ex: iterators that were made ahead of the entry and are walked here (a comprehension's); fn: the names whose cells were made at the entry (a def: all; a comprehension's block: its own); calm: not within an except suite; pn: pins that every state bears; xe: what is wanted of an exception that leaves the code -/
structure Cx where
  prog : Program
  w : World
  K : PySem.W.Frag
  mg : Str → Option Value
  base : Heap
  A : Around
  N : List Str
  s₀ : Shared
  H₀ : Hp
  env : Env
  outer : List Env
  stack : List Env
  ex : List Addr
  fn : Str → Bool
  calm : Bool
  pn : List (Addr × Obj)
  xe : Value → Shared → Prop
/-- the callers' frames -/
def frs (l : List Env) : List Addr := l.filterMap (·.frame)
abbrev Cx.fs (X : Cx) : List Addr := frs X.outer

def Vis (sc : Scope) (x : Str) : Prop := sc.names.lookup x = some .local ∨ sc.names.lookup x = some .cell ∨ sc.names.lookup x = some .free
def Loc (sc : Scope) (x : Str) : Prop := sc.names.lookup x = some .local ∨ sc.names.lookup x = some .cell
def Look (env : Env) (h : Heap) (m : Str → Option Value) (x : Str) (u : Value) : Prop :=
  (env.kindOf x = some .local ∧ m x = some u) ∨ ((env.kindOf x = some .cell ∨ env.kindOf x = some .free) ∧ ∃ c, env.cells.lookup x = some c ∧ h.IsCell c (some u))

structure Cx.Ok (X : Cx) : Prop where
  mod : Mod X.K X.mg X.base
  kind : X.env.scope.kind = .function
  glob : X.env.globals = mainGlobals
  blt : X.env.builtins = builtinsNs
  above : X.s₀.heap.objs.size ≤ X.env.locals
  inj : ∀ x y c, X.env.cells.lookup x = some c → X.env.cells.lookup y = some c → x = y
  has : ∀ x, (X.env.kindOf x = some .cell ∨ X.env.kindOf x = some .free) → ∃ c, X.env.cells.lookup x = some c
  cab : ∀ x c, X.fn x = true → X.env.cells.lookup x = some c → X.s₀.heap.objs.size ≤ c
  hd : X.calm = true → X.A.handled = none
  frames : X.A.frames = some X.stack
  stk : X.stack = X.outer ∨ (X.stack = X.env :: X.outer ∧ X.env.frame = some X.env.locals)
  exf : ∀ b ∈ X.ex, b ≠ X.env.locals ∧ ∀ x c, X.env.cells.lookup x = some c → c ≠ b
  bs : ∀ b o, X.base.get? b = some o → X.s₀.heap.get? b = some o ∧ X.H₀ b = none
  bsz : X.base.objs.size ≤ X.s₀.heap.objs.size
  noex : ∀ b o, X.base.get? b = some o → b ∉ X.ex
  exfs : ∀ b ∈ X.ex, b ∉ X.fs
  funs : X.s₀.heap.FunFrames X.base X.outer
  frf : ∀ b ∈ X.fs, X.H₀ b = none

structure Inv (X : Cx) (pins : List (Addr × Obj)) (σ : List (Option V)) (H : Hp) (s : Shared) : Prop where
  ok : X.Ok
  os : s.os = X.s₀.os
  bare : AllBare s.gens
  base : Un X.fs X.ex X.H₀ H X.s₀.heap s.heap
  loc : ∃ m, s.heap.Ns X.env.locals m ∧ ∀ (i : Nat) (x : Str) (v : V), X.N[i]? = some x → σ[i]? = some (some v) → Vis X.env.scope x → ∃ u, RelV v u ∧ Look X.env s.heap m x u
  cell : ∀ x c, X.env.cells.lookup x = some c → ∃ v, s.heap.IsCell c v
  free : H X.env.locals = none
  freeC : ∀ x c, X.env.cells.lookup x = some c → H c = none
  pin : ∀ p ∈ X.pn ++ pins, s.heap.get? p.1 = some p.2 ∧ H p.1 = none ∧ p.1 ≠ X.env.locals ∧ p.1 ∉ X.fs ∧ ∀ v, p.2.data ≠ .cell v
  hok : HOk X.prog X.w H s.heap
  len : σ.length = X.N.length

section
variable {X : Cx} {pins : List (Addr × Obj)} {σ : List (Option V)} {H H' : Hp} {s : Shared} {h' : Heap}

theorem Cx.Ok.nofr (ok : X.Ok) {b : Addr} {o : Obj} (e : X.base.get? b = some o) : b ∉ X.fs := fun hb => by
  have := (ok.funs.mem hb).1
  rw [e] at this; cases this
theorem Inv.bs (I : Inv X pins σ H s) : ∀ b o, X.base.get? b = some o → s.heap.get? b = some o ∧ H b = none := fun b o e =>
  ⟨I.base.keep b o (I.ok.bs b o e).1 (I.ok.bs b o e).2 (I.ok.nofr e) (I.ok.noex b o e), I.base.free b o (I.ok.bs b o e).1 (I.ok.bs b o e).2 (I.ok.noex b o e)⟩
theorem Inv.bk (I : Inv X pins σ H s) : ∀ b o, X.base.get? b = some o → s.heap.get? b = some o := fun b o e => (I.bs b o e).1
theorem Inv.mod (I : Inv X pins σ H s) : Mod X.K X.mg X.base := I.ok.mod
theorem Inv.kIn (I : Inv X pins σ H s) : X.K.In s.heap := I.ok.mod.kin.keeps I.bk
theorem Inv.nolimit (I : Inv X pins σ H s) : s.heap.NoLimit := I.ok.mod.nolimit.keeps I.bk
/-- the frame over the base: for OpenK's rules (K.In X.base is I.mod.kin) -/
theorem Inv.fr (I : Inv X pins σ H s) : ∃ m, Fr X.base X.env.locals s.heap m :=
  let ⟨m, hn, _⟩ := I.loc
  ⟨m, hn, I.bk, Nat.le_trans I.ok.bsz I.ok.above⟩
theorem Inv.lt (I : Inv X pins σ H s) : X.env.locals < s.heap.objs.size := let ⟨_, hn, _⟩ := I.loc; hn.lt
theorem Inv.sz (I : Inv X pins σ H s) : X.s₀.heap.objs.size ≤ s.heap.objs.size := Nat.le_trans I.ok.above (Nat.le_of_lt I.lt)
theorem Inv.nofs (I : Inv X pins σ H s) {a : Addr} (h : s.heap.objs.size ≤ a) : a ∉ X.fs := fun hb => by
  obtain ⟨_, o, ho, _⟩ := I.ok.funs.mem hb
  exact absurd (Nat.lt_of_lt_of_le (Heap.lt_size ho) (Nat.le_trans I.sz h)) (Nat.lt_irrefl _)
theorem Inv.cne (I : Inv X pins σ H s) : ∀ x c, X.env.cells.lookup x = some c → c ≠ X.env.locals := fun x c e z => by
  obtain ⟨v, o, ho, hd⟩ := I.cell x c e
  obtain ⟨m, ⟨o', es, ep, ho', hd', _⟩, _⟩ := I.loc
  rw [z, ho'] at ho; cases ho; rw [hd'] at hd; cases hd
theorem Inv.funs (I : Inv X pins σ H s) : s.heap.FunFrames X.base X.outer := by
  have all : ∀ (l : List Env), (∀ b ∈ frs l, b ∈ X.fs) → X.s₀.heap.FunFrames X.base l → s.heap.FunFrames X.base l := by
    intro l
    induction l with
    | nil => intro _ _; trivial
    | cons env r ih =>
      intro hs hl
      obtain ⟨hk, ⟨L, o, hf, hn, ho, hd⟩, hr⟩ := hl
      have hL : L ∈ X.fs := hs L (by unfold frs; rw [List.filterMap_cons, hf]; exact List.mem_cons_self)
      obtain ⟨sl, e⟩ := I.base.slot L o ho (I.ok.frf L hL) hL fun z => I.ok.exfs L z hL
      exact ⟨hk, ⟨L, _, hf, hn, e, hd⟩, ih (fun b hb => hs b (by unfold frs; rw [List.filterMap_cons, hf]; exact List.mem_cons_of_mem _ hb)) hr⟩
  exact all X.outer (fun _ hb => hb) I.ok.funs

/-- the frames that run, for a call -/
theorem Inv.stack (I : Inv X pins σ H s) : s.heap.FunFrames X.base X.stack := by
  rcases I.ok.stk with e | ⟨e, hf⟩
  · rw [e]; exact I.funs
  · rw [e]
    obtain ⟨m, hn, _⟩ := I.loc
    refine .cons (by rw [I.ok.kind]; decide) hf hn ?_ I.funs
    exact Heap.get?_none_of_le (Nat.le_trans I.ok.bsz I.ok.above)
theorem Inv.stkSub (I : Inv X pins σ H s) : ∀ b ∈ frs X.stack, b ∈ X.env.locals :: X.fs := fun b hb => by
  rcases I.ok.stk with e | ⟨e, hf⟩
  · rw [e] at hb; exact List.mem_cons_of_mem _ hb
  · rw [e] at hb
    unfold frs at hb
    rw [List.filterMap_cons, hf] at hb
    exact hb
theorem Inv.stkFree (I : Inv X pins σ H s) : ∀ b ∈ frs X.stack, H b = none := fun b hb => by
  rcases List.mem_cons.mp (I.stkSub b hb) with e | hb
  · rw [e]; exact I.free
  · obtain ⟨_, o, ho, _⟩ := I.ok.funs.mem hb
    exact I.base.free b o ho (I.ok.frf b hb) fun z => I.ok.exfs b z hb

/-- THE STEP: the untracked objects but the frame and the records at ch are kept (the callers' frames up to slots), the frame's map is kept, the new abstract heap is held -/
theorem Inv.step {g' : Array GenState} {t' : Nat} {d' : Drawn} {ch : List Addr} (I : Inv X pins σ H s)
    (hch : ∀ b ∈ ch, (b ∈ X.ex ∨ X.s₀.heap.objs.size ≤ b) ∧ b ≠ X.env.locals ∧ (∀ x c, X.env.cells.lookup x = some c → c ≠ b) ∧ ∀ p ∈ X.pn ++ pins, p.1 ≠ b)
    (keep : ∀ b o, b ≠ X.env.locals → b ∉ X.fs → b ∉ ch → s.heap.get? b = some o → H b = none → h'.get? b = some o)
    (slot : ∀ b o, b ≠ X.env.locals → b ∈ X.fs → b ∉ ch → s.heap.get? b = some o → H b = none → ∃ sl, h'.get? b = some { o with slots := sl }) (free : ∀ b o, b ∉ ch → s.heap.get? b = some o → H b = none → H' b = none)
    (there : ∀ b o, b ∉ ch → s.heap.get? b = some o → ∃ o', h'.get? b = some o')
    (tups : ∀ b xs, H b = some (.tup xs) → H' b = some (.tup xs)) (frzs : ∀ b o u, H b = some (.frz o u) → H' b = some (.frz o u)) (tbls : ∀ b ps, H b = some (.tbl ps) → ∃ more, H' b = some (.tbl (ps ++ more)))
    (ns : ∀ m, s.heap.Ns X.env.locals m → h'.Ns X.env.locals m) (hok : HOk X.prog X.w H' h') (hg : AllBare g') :
    Inv X pins σ H' { s with heap := h', gens := g', drawn := d', toks := t' } := by
  have neL : ∀ b o, X.s₀.heap.get? b = some o → b ≠ X.env.locals := fun b o e => Nat.ne_of_lt (Nat.lt_of_lt_of_le (Heap.lt_size e) I.ok.above)
  have neC : ∀ b o, X.s₀.heap.get? b = some o → b ∉ X.ex → b ∉ ch := fun b o e hx hb => by
    rcases (hch b hb).1 with z | z
    · exact hx z
    · exact absurd (Nat.lt_of_lt_of_le (Heap.lt_size e) z) (Nat.lt_irrefl _)
  have cellK : ∀ x c, X.env.cells.lookup x = some c → ∀ v, s.heap.IsCell c v → h'.IsCell c v := fun x c e v ⟨o, ho, hd⟩ => by
    have nch : c ∉ ch := fun z => (hch c z).2.2.1 x c e rfl
    by_cases hc : c ∈ X.fs
    · obtain ⟨sl, q⟩ := slot c o (I.cne x c e) hc nch ho (I.freeC x c e)
      exact ⟨_, q, hd⟩
    · exact ⟨o, keep c o (I.cne x c e) hc nch ho (I.freeC x c e), hd⟩
  refine ⟨I.ok, I.os, hg, ⟨fun b o e n hb hx => ?_, fun b o e n hb hx => ?_, fun b o e n hx => ?_, fun b o e hx => ?_, fun b xs e => tups b xs (I.base.tups b xs e), fun b o xs e => frzs b o xs (I.base.frzs b o xs e), fun b ps e => ?_⟩, ?_, fun x c e => ?_, ?_, fun x c e => ?_, fun p hp => ?_, hok, I.len⟩
  · exact keep b o (neL b o e) hb (neC b o e hx) (I.base.keep b o e n hb hx) (I.base.free b o e n hx)
  · obtain ⟨sl, e1⟩ := I.base.slot b o e n hb hx
    obtain ⟨sl', e2⟩ := slot b _ (neL b o e) hb (neC b o e hx) e1 (I.base.free b o e n hx)
    exact ⟨sl', e2⟩
  · obtain ⟨o', e1⟩ := I.base.there b o e hx
    exact free b o' (neC b o e hx) e1 (I.base.free b o e n hx)
  · obtain ⟨o', e1⟩ := I.base.there b o e hx
    exact there b o' (neC b o e hx) e1
  · obtain ⟨m1, e1⟩ := I.base.tbls b ps e
    obtain ⟨m2, e2⟩ := tbls b _ e1
    exact ⟨m1 ++ m2, by rw [e2, Array.append_assoc]⟩
  · obtain ⟨m, hn, hl⟩ := I.loc
    refine ⟨m, ns m hn, fun i x v e1 e2 e3 => ?_⟩
    obtain ⟨u, r, l⟩ := hl i x v e1 e2 e3
    refine ⟨u, r, ?_⟩
    rcases l with l | ⟨k, c, e, z⟩
    · exact .inl l
    · exact .inr ⟨k, c, e, cellK x c e _ z⟩
  · obtain ⟨v, z⟩ := I.cell x c e
    exact ⟨v, cellK x c e v z⟩
  · obtain ⟨m, ⟨o, _, _, ho, _⟩, _⟩ := I.loc
    exact free _ o (fun z => (hch _ z).2.1 rfl) ho I.free
  · obtain ⟨v, o, ho, hd⟩ := I.cell x c e
    exact free c o (fun z => (hch c z).2.2.1 x c e rfl) ho (I.freeC x c e)
  · obtain ⟨e, n, ne, nf, d⟩ := I.pin p hp
    have nch : p.1 ∉ ch := fun z => (hch p.1 z).2.2.2 p hp rfl
    exact ⟨keep p.1 p.2 ne nf nch e n, free p.1 p.2 nch e n, ne, nf, d⟩
/-- .. where the frame's own object is kept too -/
theorem Inv.un {t' : Nat} (I : Inv X pins σ H s) (u : Un X.fs [] H H' s.heap h') (hok : HOk X.prog X.w H' h') : Inv X pins σ H' { s with heap := h', toks := t' } := by
  obtain ⟨m, ⟨o, es, ep, ho, r⟩, _⟩ := id I.loc
  obtain ⟨sl, hL⟩ := u.any ho I.free (by simp)
  exact I.step (g' := s.gens) (d' := s.drawn) (ch := []) (fun _ z => nomatch z) (fun b o _ hb _ e n => u.keep b o e n hb (by simp)) (fun b o _ hb _ e n => u.slot b o e n hb (by simp)) (fun b o _ e n => u.free b o e n (by simp)) (fun b o _ e => u.there b o e (by simp)) u.tups u.frzs u.tbls (fun m' hm => by
    obtain ⟨o', es', ep', ho', r'⟩ := hm
    rw [ho] at ho'; cases ho'
    exact ⟨_, es', ep', hL, r'⟩) hok I.bare
/-- behind a call (or a comprehension's block): the slots of this frame may have changed too, the records at ch may have turned -/
theorem Inv.call {g' : Array GenState} {t' : Nat} {d' : Drawn} {ch : List Addr} (I : Inv X pins σ H s) (u : Un (frs X.stack) ch H H' s.heap h') (hok : HOk X.prog X.w H' h') (hg : AllBare g')
    (hch : ∀ b ∈ ch, (b ∈ X.ex ∨ X.s₀.heap.objs.size ≤ b) ∧ b ≠ X.env.locals ∧ (∀ x c, X.env.cells.lookup x = some c → c ≠ b) ∧ ∀ p ∈ X.pn ++ pins, p.1 ≠ b) :
    Inv X pins σ H' { s with heap := h', gens := g', drawn := d', toks := t' } := by
  obtain ⟨m, ⟨o, es, ep, ho, r⟩, _⟩ := id I.loc
  obtain ⟨sl, hL⟩ := u.any ho I.free fun z => (hch _ z).2.1 rfl
  exact I.step (ch := ch) hch (fun b o hL hb hc e n => u.keep b o e n (fun z => (List.mem_cons.mp (I.stkSub b z)).elim hL hb) hc) (fun b o _ _ hc e n => u.any e n hc) (fun b o hc e n => u.free b o e n hc) (fun b o hc e => u.there b o e hc) u.tups u.frzs u.tbls (fun m' hm => by
    obtain ⟨o', es', ep', ho', r'⟩ := hm
    rw [ho] at ho'; cases ho'
    exact ⟨_, es', ep', hL, r'⟩) hok hg
/-- an untracked record of ours (an iterator) has turned -/
theorem Inv.turned {t' : Nat} {it : Addr} (I : Inv X pins σ H s) (k : ∀ b o, b ≠ it → s.heap.get? b = some o → h'.get? b = some o) (hn : H it = none) (hL : it ≠ X.env.locals)
    (h1 : it ∈ X.ex ∨ X.s₀.heap.objs.size ≤ it) (h2 : ∀ x c, X.env.cells.lookup x = some c → c ≠ it) (h3 : ∀ p ∈ X.pn ++ pins, p.1 ≠ it) : Inv X pins σ H { s with heap := h', toks := t' } := by
  have nit : ∀ b u, H b = some u → b ≠ it := fun b u e z => by rw [z, hn] at e; cases e
  refine I.step (g' := s.gens) (d' := s.drawn) (ch := [it]) (fun b hb => ?_) (fun b o _ _ hc e _ => k b o (fun z => hc (by simp [z])) e) (fun b o _ _ hc e _ => ⟨o.slots, k b o (fun z => hc (by simp [z])) e⟩) (fun _ _ _ _ n => n)
    (fun b o hc e => ⟨o, k b o (fun z => hc (by simp [z])) e⟩) (fun _ _ e => e) (fun _ _ _ e => e) (fun b ps e => ⟨#[], by rw [e]; simp⟩) (fun m hm => ?_) (fun b u e => ?_) I.bare
  · have e : b = it := by simpa using hb
    subst e
    exact ⟨h1, hL, h2, h3⟩
  · obtain ⟨o, es, ep, ho, r⟩ := hm
    exact ⟨o, es, ep, k _ o (Ne.symm hL) ho, r⟩
  · refine (I.hok b u e).stay (fun c v hc q => k c v ?_ q) (fun _ q => q) fun _ _ q => q
    rcases hc with z | z
    · rw [z]; exact nit b u e
    · exact nit c _ z
theorem Inv.tok (I : Inv X pins σ H s) (t : Nat) : Inv X pins σ H { s with toks := t } := I.un (h' := s.heap) (t' := t) Un.refl I.hok
/-- all objects kept -/
theorem Inv.kept {t' : Nat} (I : Inv X pins σ H s) (k : ∀ b u, s.heap.get? b = some u → h'.get? b = some u) : Inv X pins σ H { s with heap := h', toks := t' } := I.un (Un.kept k) (I.hok.kept k)
/-- a new object laid and tracked -/
theorem Inv.laid {a : Addr} {o : HO} {t' : Nat} (I : Inv X pins σ H s) (k : ∀ b u, s.heap.get? b = some u → h'.get? b = some u) (hp : s.heap.objs.size ≤ a) (new : ObjOk X.prog X.w (upd H a o) h' a o) :
    Inv X pins σ (upd H a o) { s with heap := h', toks := t' } := I.un (Un.laid k hp (I.hok.fresh hp)) (I.hok.laid k hp new)
/-- an object written -/
theorem Inv.write {x e : Addr} {o : HO} {t' : Nat} (I : Inv X pins σ H s) (mu : Mut (H x)) (he : e = x ∨ H e = some (.own x)) (k : ∀ b u, b ≠ e → s.heap.get? b = some u → h'.get? b = some u) (heo : ∃ u, h'.get? e = some u)
    (new : ObjOk X.prog X.w (upd H x o) h' x o) : Inv X pins σ (upd H x o) { s with heap := h', toks := t' } := I.un (Un.write mu he k heo) (I.hok.write mu he k heo new)
/-- forgetting slots, pins -/
theorem Inv.weak {σ' : List (Option V)} (I : Inv X pins σ H s) (hl : σ'.length = σ.length) (w : ∀ (i : Nat) v, σ'[i]? = some (some v) → σ[i]? = some (some v)) : Inv X pins σ' H s :=
  ⟨I.ok, I.os, I.bare, I.base, let ⟨m, hn, hl'⟩ := I.loc; ⟨m, hn, fun i x v e1 e2 e3 => hl' i x v e1 (w i v e2) e3⟩, I.cell, I.free, I.freeC, I.pin, I.hok, hl.trans I.len⟩
theorem Inv.pins_of {pins' : List (Addr × Obj)} (I : Inv X pins σ H s) (h : ∀ p ∈ pins', s.heap.get? p.1 = some p.2 ∧ H p.1 = none ∧ p.1 ≠ X.env.locals ∧ p.1 ∉ X.fs ∧ ∀ v, p.2.data ≠ .cell v) : Inv X pins' σ H s :=
  ⟨I.ok, I.os, I.bare, I.base, I.loc, I.cell, I.free, I.freeC, fun p hp => (List.mem_append.mp hp).elim (fun z => I.pin p (List.mem_append_left _ z)) (h p), I.hok, I.len⟩

theorem nodup_ix {N : List Str} (hN : N.Nodup) {i j : Nat} {x : Str} (a : N[i]? = some x) (b : N[j]? = some x) : i = j := by
  obtain ⟨h1, e1⟩ := List.getElem?_eq_some_iff.mp a
  obtain ⟨h2, e2⟩ := List.getElem?_eq_some_iff.mp b
  exact (List.getElem_inj hN).mp (e1.trans e2.symm)

/-- a name is stored; what changed -/
theorem store_ok2 {M : Model} {A : Around} {E : Value → Shared → Prop} {i : Nat} {x : Str} {v : V} {u : Value} {Q : Unit → Shared → Prop} (I : Inv X pins σ H s) (hN : X.N.Nodup) (hi : X.N[i]? = some x) (hx : Loc X.env.scope x) (r : RelV v u)
    (h : ∀ s', Inv X pins (σ.set i (some v)) H s' → (∃ a, Heap.SameBut a s.heap s'.heap ∧ (a = X.env.locals ∨ X.env.cells.lookup x = some a)) → Q () s') (hf : X.fn x = true ∨ X.env.scope.names.lookup x = some .local := by first | exact .inl rfl | exact .inr rfl | assumption) : wpAny M A (storeName X.env x u) Q E s := by
  obtain ⟨m, hn, hl⟩ := id I.loc
  have hcls : (X.env.scope.kind == .class || (X.env.scope.kind == .module && X.env.locals != X.env.globals)) = false := by rw [I.ok.kind]; rfl
  have hiσ : i < σ.length := by rw [I.len]; exact (List.getElem?_eq_some_iff.mp hi).1
  have cne := I.cne
  have tracked : ∀ {a : Addr} {h' : Heap}, (∃ o, s.heap.get? a = some o ∧ H a = none) → Heap.SameBut a s.heap h' → HOk X.prog X.w H h' := fun {a h'} ha hs b ob e => by
    obtain ⟨_, _, hfree⟩ := ha
    refine (I.hok b ob e).stay (fun c w' hc q => (hs.2 c ?_).trans q) (fun _ q => q) fun _ _ q => q
    rintro rfl
    rcases hc with rfl | hc
    · rw [hfree] at e; cases e
    · rw [hfree] at hc; cases hc
  rcases hx with hk | hk
  · refine wpAny_storeName_local hk hn (fun h' hn' hs => ?_) hcls
    obtain ⟨oL, _, _, hoL, _⟩ := id hn
    refine h _ ⟨I.ok, I.os, I.bare, ⟨fun b o e n hb hx => ?_, fun b o e n hb hx => ?_, I.base.free, fun b o e hx => ?_, I.base.tups, I.base.frzs, I.base.tbls⟩, ⟨_, hn', fun j y v' e1 e2 e3 => ?_⟩, fun y c e => ?_, I.free, I.freeC, fun p hp => ?_, tracked ⟨oL, hoL, I.free⟩ hs, by simpa using I.len⟩ ⟨_, hs, .inl rfl⟩
    · exact (hs.2 b (Nat.ne_of_lt (Nat.lt_of_lt_of_le (Heap.lt_size e) I.ok.above))).trans (I.base.keep b o e n hb hx)
    · obtain ⟨sl, e1⟩ := I.base.slot b o e n hb hx
      exact ⟨sl, (hs.2 b (Nat.ne_of_lt (Nat.lt_of_lt_of_le (Heap.lt_size e) I.ok.above))).trans e1⟩
    · obtain ⟨o', e1⟩ := I.base.there b o e hx
      exact ⟨o', (hs.2 b (Nat.ne_of_lt (Nat.lt_of_lt_of_le (Heap.lt_size e) I.ok.above))).trans e1⟩
    · by_cases hj : j = i
      · subst hj
        rw [hi] at e1; cases e1
        rw [List.getElem?_set_self hiσ] at e2
        cases e2
        exact ⟨u, r, .inl ⟨hk, by simp⟩⟩
      · rw [List.getElem?_set_ne (Ne.symm hj)] at e2
        obtain ⟨u', r', q⟩ := hl j y v' e1 e2 e3
        refine ⟨u', r', ?_⟩
        rcases q with ⟨k, e⟩ | ⟨k, c, e, z⟩
        · refine .inl ⟨k, ?_⟩
          have : y ≠ x := fun e => hj (nodup_ix hN e1 (e ▸ hi))
          simp [this, e]
        · exact .inr ⟨k, c, e, z.sameBut hs (cne y c e)⟩
    · obtain ⟨w', z⟩ := I.cell y c e
      exact ⟨w', z.sameBut hs (cne y c e)⟩
    · obtain ⟨e, n, ne, nf, d⟩ := I.pin p hp
      exact ⟨(hs.2 p.1 ne).trans e, n, ne, nf, d⟩
  · have hfn : X.fn x = true := by
      rcases hf with z | z
      · exact z
      · rw [z] at hk; cases hk
    obtain ⟨c, hc⟩ := I.ok.has x (.inl hk)
    obtain ⟨w', z⟩ := I.cell x c hc
    refine wpAny_storeName_cell I.ok.kind hk hc z (fun h' hc' hs => ?_)
    obtain ⟨oc, hoc, hocd⟩ := id z
    refine h { s with heap := h' } ⟨I.ok, I.os, I.bare, ⟨fun b o e n hb hx => ?_, fun b o e n hb hx => ?_, I.base.free, fun b o e hx => ?_, I.base.tups, I.base.frzs, I.base.tbls⟩, ⟨m, hn.sameBut hs (Ne.symm (cne x c hc)), fun j y v' e1 e2 e3 => ?_⟩, fun y c' e => ?_, I.free, I.freeC, fun p hp => ?_, tracked ⟨oc, hoc, I.freeC x c hc⟩ hs, by simpa using I.len⟩ ⟨c, hs, .inr hc⟩
    · exact (hs.2 b (Nat.ne_of_lt (Nat.lt_of_lt_of_le (Heap.lt_size e) (I.ok.cab x c hfn hc)))).trans (I.base.keep b o e n hb hx)
    · obtain ⟨sl, e1⟩ := I.base.slot b o e n hb hx
      exact ⟨sl, (hs.2 b (Nat.ne_of_lt (Nat.lt_of_lt_of_le (Heap.lt_size e) (I.ok.cab x c hfn hc)))).trans e1⟩
    · obtain ⟨o', e1⟩ := I.base.there b o e hx
      exact ⟨o', (hs.2 b (Nat.ne_of_lt (Nat.lt_of_lt_of_le (Heap.lt_size e) (I.ok.cab x c hfn hc)))).trans e1⟩
    · by_cases hj : j = i
      · subst hj
        rw [hi] at e1; cases e1
        rw [List.getElem?_set_self hiσ] at e2
        cases e2
        exact ⟨u, r, .inr ⟨.inl hk, c, hc, hc'⟩⟩
      · rw [List.getElem?_set_ne (Ne.symm hj)] at e2
        obtain ⟨u', r', q⟩ := hl j y v' e1 e2 e3
        refine ⟨u', r', ?_⟩
        rcases q with q | ⟨k, c', e, z'⟩
        · exact .inl q
        · refine .inr ⟨k, c', e, z'.sameBut hs ?_⟩
          rintro rfl
          exact hj (nodup_ix hN e1 (I.ok.inj _ _ _ e hc ▸ hi))
    · by_cases hcc : c' = c
      · subst hcc; exact ⟨_, hc'⟩
      · obtain ⟨w2, z2⟩ := I.cell y c' e
        exact ⟨w2, z2.sameBut hs hcc⟩
    · obtain ⟨e, n, ne, nf, d⟩ := I.pin p hp
      refine ⟨(hs.2 p.1 ?_).trans e, n, ne, nf, d⟩
      intro q
      rw [q, hoc] at e
      have q' : oc = p.2 := Option.some.inj e
      exact d w' (by rw [← q']; exact hocd)
theorem store_ok {M : Model} {A : Around} {E : Value → Shared → Prop} {i : Nat} {x : Str} {v : V} {u : Value} {Q : Unit → Shared → Prop} (I : Inv X pins σ H s) (hN : X.N.Nodup) (hi : X.N[i]? = some x) (hx : Loc X.env.scope x) (r : RelV v u)
    (h : ∀ s', Inv X pins (σ.set i (some v)) H s' → Q () s') (hf : X.fn x = true ∨ X.env.scope.names.lookup x = some .local := by first | exact .inl rfl | exact .inr rfl | assumption) : wpAny M A (storeName X.env x u) Q E s :=
  store_ok2 I hN hi hx r (fun s' I' _ => h s' I') hf
/-- behind a call or a block, the state as it is -/
theorem Inv.call' {s' : Shared} {ch : List Addr} (I : Inv X pins σ H s) (ho : s'.os = s.os) (u : Un (frs X.stack) ch H H' s.heap s'.heap) (hok : HOk X.prog X.w H' s'.heap) (hg : AllBare s'.gens)
    (hch : ∀ b ∈ ch, (b ∈ X.ex ∨ X.s₀.heap.objs.size ≤ b) ∧ b ≠ X.env.locals ∧ (∀ x c, X.env.cells.lookup x = some c → c ≠ b) ∧ ∀ p ∈ X.pn ++ pins, p.1 ≠ b) : Inv X pins σ H' s' := by
  obtain ⟨h', g', d', t', o'⟩ := s'
  have e : o' = s.os := ho
  subst e
  exact I.call (g' := g') (t' := t') (d' := d') u hok hg hch
end

/-! ### the judgements -/
/-- an exception: its class, its own dict's address (where it has one), the abstract heap behind it -/
abbrev XK := Value → Option Addr → Hp → Prop
abbrev St := List (Option V)
abbrev VK := V → Hp → Prop
/-- an expression's reading; a test's; an argument list's -/
abbrev TE := St → Hp → VK → Prop
abbrev TT := St → Hp → (Bool → Hp → Prop) → Prop
abbrev TA := St → Hp → (List V → Hp → Prop) → Prop
/-- what is wanted behind a statement -/
structure Ends where
  nx : St → Hp → Prop
  rt : VK
  bk : St → Hp → Prop := fun _ _ => False
  ct : St → Hp → Prop := fun _ _ => False
abbrev TS := Ends → St → Hp → Prop

def EP (X : Cx) (pins : List (Addr × Obj)) (σ : St) (Q : VK) (u : Value) (s' : Shared) : Prop := ∃ v H', Inv X pins σ H' s' ∧ RelV v u ∧ Q v H'
def TP (X : Cx) (pins : List (Addr × Obj)) (σ : St) (Q : Bool → Hp → Prop) (b : Bool) (s' : Shared) : Prop := ∃ H', Inv X pins σ H' s' ∧ Q b H'
def AP (X : Cx) (pins : List (Addr × Obj)) (σ : St) (Q : List V → Hp → Prop) (us : List Value) (s' : Shared) : Prop := ∃ vs H', Inv X pins σ H' s' ∧ Vals vs us ∧ Q vs H'
def SP (X : Cx) (pins : List (Addr × Obj)) (D : Ends) (f : Flow) (s' : Shared) : Prop :=
  match f with
  | .next => ∃ σ' H', Inv X pins σ' H' s' ∧ D.nx σ' H'
  | .brk => ∃ σ' H', Inv X pins σ' H' s' ∧ D.bk σ' H'
  | .cont => ∃ σ' H', Inv X pins σ' H' s' ∧ D.ct σ' H'
  | .ret u => ∃ v σ' H', Inv X pins σ' H' s' ∧ RelV v u ∧ D.rt v H'

def PE (X : Cx) (e : Expr) (t : TE) : Prop :=
  ∀ (pins : List (Addr × Obj)) (s : Shared) (σ : St) (H : Hp) (Q : VK), Inv X pins σ H s → t σ H Q → wpAny (model X.prog X.w) X.A (eval e X.env) (EP X pins σ Q) X.xe s
def PT (X : Cx) (e : Expr) (t : TT) : Prop :=
  ∀ (pins : List (Addr × Obj)) (s : Shared) (σ : St) (H : Hp) (Q : Bool → Hp → Prop), Inv X pins σ H s → t σ H Q → wpAny (model X.prog X.w) X.A (isTrue e X.env (eval e X.env)) (TP X pins σ Q) X.xe s
/-- a test whatever its 'whole' is (and, or) -/
def PW (X : Cx) (e : Expr) (t : TT) : Prop :=
  ∀ (whole : Sem Value) (pins : List (Addr × Obj)) (s : Shared) (σ : St) (H : Hp) (Q : Bool → Hp → Prop), Inv X pins σ H s → t σ H Q → wpAny (model X.prog X.w) X.A (isTrue e X.env whole) (TP X pins σ Q) X.xe s
theorem PW.pt {X : Cx} {e : Expr} {t : TT} (h : PW X e t) : PT X e t := h _
/-- an argument list (no star), from the left -/
def PA (X : Cx) (es : List Expr) (t : TA) : Prop :=
  ∀ (pos : Pos) (pins : List (Addr × Obj)) (s : Shared) (σ : St) (H : Hp) (Q : List V → Hp → Prop), Inv X pins σ H s → t σ H Q → wpAny (model X.prog X.w) X.A (spliced (backTo pos (starEach es X.env))) (AP X pins σ Q) X.xe s
def PS (X : Cx) (st : Stmt) (t : TS) : Prop :=
  ∀ (pins : List (Addr × Obj)) (s : Shared) (σ : St) (H : Hp) (D : Ends), Inv X pins σ H s → t D σ H → wpAny (model X.prog X.w) X.A (exec st X.env) (SP X pins D) X.xe s
def PSs (X : Cx) (st : List Stmt) (t : TS) : Prop :=
  ∀ (pins : List (Addr × Obj)) (s : Shared) (σ : St) (H : Hp) (D : Ends), Inv X pins σ H s → t D σ H → wpAny (model X.prog X.w) X.A (execs st X.env) (SP X pins D) X.xe s
/-- weaken the end -/
theorem thn {α : Type} {t : Sem α} {Q Q' : α → Shared → Prop} {M : Model} {A : Around} {E : Value → Shared → Prop} {s : Shared} (h : wpAny M A t Q E s) (hQ : ∀ a s, Q a s → Q' a s) : wpAny M A t Q' E s := wpAny_mono h hQ fun _ _ x => x
end L2

namespace L2
open PySem PySem.Spec PyProof.Rows
section
variable {X : Cx}

/-- two expressions in a row -/
theorem bin {a b : Expr} {ta tb : TE} (ha : PE X a ta) (hb : PE X b tb) {pins : List (Addr × Obj)} {s : Shared} {σ : St} {H : Hp} {R : V → V → Hp → Prop} (I : Inv X pins σ H s) (h : ta σ H fun x H1 => tb σ H1 fun y H2 => R x y H2)
    {α : Type} {Q : α → Shared → Prop} {f : Value → Value → Sem α}
    (hf : ∀ v u s2 x y H2, Inv X pins σ H2 s2 → RelV x v → RelV y u → R x y H2 → wpAny (model X.prog X.w) X.A (f v u) Q X.xe s2) :
    wpAny (model X.prog X.w) X.A (eval a X.env) (fun v s₁ => wpAny (model X.prog X.w) X.A (eval b X.env) (fun u s₂ => wpAny (model X.prog X.w) X.A (f v u) Q X.xe s₂) X.xe s₁) X.xe s := by
  refine thn (ha pins s σ H _ I h) fun v s1 ⟨x, H1, I1, r1, q1⟩ => ?_
  refine thn (hb pins s1 σ H1 _ I1 q1) fun u s2 ⟨y, H2, I2, r2, q2⟩ => ?_
  exact hf v u s2 x y H2 I2 r1 r2 q2

/-! ### names and constants -/
def tVar (i : Nat) : TE := fun σ H Q => ∃ v, σ[i]? = some (some v) ∧ Q v H
def tC (v : V) : TE := fun _ H Q => Q v H
theorem pe_var {i : Nat} {x : Str} {pos : Pos} (hN : X.N[i]? = some x) (hv : Vis X.env.scope x) (hd : (x == ("__debug__" : Str)) = false := by decide) (hcd : (x == ("__classdict__" : Str)) = false := by decide) : PE X (.Name x pos) (tVar i) := by
  intro pins s σ H Q I h
  obtain ⟨v, e, h⟩ := h
  obtain ⟨m, hn, hl⟩ := I.loc
  obtain ⟨u, r, l⟩ := hl i x v hN e hv
  have fin : EP X pins σ Q u s := ⟨v, H, I, r, h⟩
  rcases l with ⟨hk, hm⟩ | ⟨hk, c, hc, hcell⟩
  · exact wpAny_Name (wpAny_loadName_local I.ok.kind hk hn hm fin) hd
  · rcases hk with hk | hk
    · exact wpAny_Name (wpAny_loadName_cell I.ok.kind hk hc hcell fin) hd
    · exact wpAny_Name (wpAny_loadName_free I.ok.kind hk hc hcell fin hcd) hd
theorem pe_int {i j pos} : PE X (.Constant (.int i) j pos) (tC (.int i)) := fun _ _ _ H _ I h => wpAny_Constant_int ⟨.int i, H, I.tok _, ⟨_, rfl⟩, h⟩
theorem pe_bl {b j pos} : PE X (.Constant (.bool b) j pos) (tC (.bl b)) := fun _ _ _ H _ I h => Constant_bool ⟨.bl b, H, I, rfl, h⟩
theorem pe_non {j pos} : PE X (.Constant .none j pos) (tC .non) := fun _ _ _ H _ I h => Constant_none ⟨.non, H, I, rfl, h⟩
theorem pe_str {x j pos} : PE X (.Constant (.str x) j pos) (tC (.str x)) := fun _ _ _ H _ I h => Calls.Constant_str ⟨.str x, H, I.tok _, ⟨_, rfl⟩, h⟩

/-- a global name of the def -/
def Gl (X : Cx) (x : Str) : Prop := X.env.kindOf x = some .globalImplicit
theorem ld_glob {E : Value → Shared → Prop} {pins : List (Addr × Obj)} {s : Shared} {σ : St} {H : Hp} {x : Str} {u : Value} {pos : Pos} {Q : Value → Shared → Prop} (I : Inv X pins σ H s) (hg : Gl X x) (hm : X.mg x = some u) (h : Q u s)
    (hd : (x == ("__debug__" : Str)) = false := by decide) : wpAny (model X.prog X.w) X.A (eval (.Name x pos) X.env) Q E s :=
  Calls.Name_function_global I.ok.kind hg (Calls.loadGlobal_global (by rw [I.ok.glob]; exact I.mod.glob.keeps I.bk) hm h) hd
theorem ld_blt {E : Value → Shared → Prop} {pins : List (Addr × Obj)} {s : Shared} {σ : St} {H : Hp} {x : Str} {u : Value} {pos : Pos} {Q : Value → Shared → Prop} (I : Inv X pins σ H s) (hg : Gl X x) (hm : X.mg x = none) (hv : bootBuiltins x = some u) (h : Q u s)
    (hn : x ≠ "__name__" := by decide) (hd : (x == ("__debug__" : Str)) = false := by decide) : wpAny (model X.prog X.w) X.A (eval (.Name x pos) X.env) Q E s := by
  obtain ⟨mb, h1, h2⟩ := I.mod.blt
  exact Calls.Name_function_global I.ok.kind hg (Calls.loadGlobal_builtin (by rw [I.ok.glob]; exact I.mod.glob.keeps I.bk) hm (by rw [I.ok.blt]; exact h1.keeps I.bk) ((h2 x hn).trans hv) h) hd
/-- a module's constant, a class, a function, as a value -/
theorem pe_glob {x : Str} {v : V} {u : Value} {pos : Pos} (hg : Gl X x) (hm : X.mg x = some u) (r : RelV v u) (hd : (x == ("__debug__" : Str)) = false := by decide) : PE X (.Name x pos) (tC v) :=
  fun _ _ _ H _ I h => ld_glob I hg hm ⟨v, H, I, r, h⟩ hd
theorem pe_bltn {x : Str} {v : V} {u : Value} {pos : Pos} (hg : Gl X x) (hm : X.mg x = none) (hv : bootBuiltins x = some u) (r : RelV v u) (hn : x ≠ "__name__" := by decide) (hd : (x == ("__debug__" : Str)) = false := by decide) : PE X (.Name x pos) (tC v) :=
  fun _ _ _ H _ I h => ld_blt I hg hm hv ⟨v, H, I, r, h⟩ hn hd

/-! ### arithmetic -/
/-- two ints -/
def t2I (ta tb : TE) (k : Int → Int → Hp → Prop) : St → Hp → Prop := fun σ H => ta σ H fun x H1 => tb σ H1 fun y H2 => ∃ i j, x = .int i ∧ y = .int j ∧ k i j H2
def tAdd (ta tb : TE) : TE := fun σ H Q => t2I ta tb (fun i j H2 => Q (.int (i + j)) H2) σ H
def tSub (ta tb : TE) : TE := fun σ H Q => t2I ta tb (fun i j H2 => Q (.int (i - j)) H2) σ H
/-- the left factor below 2^64 -/
def tMul (ta tb : TE) : TE := fun σ H Q => t2I ta tb (fun i j H2 => (-(2 ^ 64) < i ∧ i < 2 ^ 64) ∧ Q (.int (i * j)) H2) σ H
variable {a b : Expr} {ta tb : TE} {pos : Pos}
theorem pe_add (ha : PE X a ta) (hb : PE X b tb) : PE X (.BinOp a .Add b pos) (tAdd ta tb) := by
  intro pins s σ H Q I h
  refine wpAny_BinOp (bin ha hb I h fun v u s2 x y H2 I2 rx ry q => ?_)
  obtain ⟨i, j, rfl, rfl, q⟩ := q
  obtain ⟨t, rfl⟩ := rx
  obtain ⟨t', rfl⟩ := ry
  exact add_int ⟨.int _, H2, I2.tok _, ⟨_, rfl⟩, q⟩
theorem pe_sub (ha : PE X a ta) (hb : PE X b tb) : PE X (.BinOp a .Sub b pos) (tSub ta tb) := by
  intro pins s σ H Q I h
  refine wpAny_BinOp (bin ha hb I h fun v u s2 x y H2 I2 rx ry q => ?_)
  obtain ⟨i, j, rfl, rfl, q⟩ := q
  obtain ⟨t, rfl⟩ := rx
  obtain ⟨t', rfl⟩ := ry
  exact sub_int ⟨.int _, H2, I2.tok _, ⟨_, rfl⟩, q⟩
theorem pe_mul (ha : PE X a ta) (hb : PE X b tb) : PE X (.BinOp a .Mult b pos) (tMul ta tb) := by
  intro pins s σ H Q I h
  refine wpAny_BinOp (bin ha hb I h fun v u s2 x y H2 I2 rx ry q => ?_)
  obtain ⟨i, j, rfl, rfl, ⟨q1, q2⟩, q⟩ := q
  obtain ⟨t, rfl⟩ := rx
  obtain ⟨t', rfl⟩ := ry
  exact mul_int ⟨.int _, H2, I2.tok _, ⟨_, rfl⟩, q⟩ (.of_left (intBits_le_64 q1 q2))

/-! ### comparisons -/
def PC (X : Cx) (op : CmpOp) (a b : Expr) (t : TE) : Prop :=
  ∀ (pins : List (Addr × Obj)) (s : Shared) (σ : St) (H : Hp) (Q : VK), Inv X pins σ H s → t σ H Q →
    wpAny (model X.prog X.w) X.A (eval a X.env) (fun v s₁ => wpAny (model X.prog X.w) X.A (eval b X.env) (fun u s₂ => wpAny (model X.prog X.w) X.A (compareOp op v u) (EP X pins σ Q) X.xe s₂) X.xe s₁) X.xe s
theorem nobehind (b : Expr) {op : CmpOp} (h : op ≠ .In) (h2 : op ≠ .NotIn) : behindInMarks op b = false := by
  have e1 : (op == CmpOp.In) = false := by cases op <;> first | rfl | exact absurd rfl h
  have e2 : (op == CmpOp.NotIn) = false := by cases op <;> first | rfl | exact absurd rfl h2
  cases b <;> simp [behindInMarks, e1, e2]
def tCmp (p : Int → Int → Bool) (ta tb : TE) : TE := fun σ H Q => t2I ta tb (fun i j H2 => Q (.bl (p i j)) H2) σ H
abbrev tLt : TE → TE → TE := tCmp fun i j => decide (i < j)
abbrev tLe : TE → TE → TE := tCmp fun i j => decide (i ≤ j)
abbrev tGt : TE → TE → TE := tCmp fun i j => decide (j < i)
abbrev tGe : TE → TE → TE := tCmp fun i j => decide (j ≤ i)
abbrev tEqI : TE → TE → TE := tCmp fun i j => decide (i = j)
abbrev tNeI : TE → TE → TE := tCmp fun i j => !decide (i = j)
/-- a comparison of two ints, by its rule -/
theorem pc_int {op : CmpOp} {p : Int → Int → Bool} (ha : PE X a ta) (hb : PE X b tb)
    (rule : ∀ (i j : Int) (t u : Tok) (Q : Value → Shared → Prop) (s : Shared), Q (.bool (p i j)) s → wpAny (model X.prog X.w) X.A (compareOp op (.int i t) (.int j u)) Q X.xe s) : PC X op a b (tCmp p ta tb) := by
  intro pins s σ H Q I h
  refine bin ha hb I h fun v u s2 x y H2 I2 rx ry q => ?_
  obtain ⟨i, j, rfl, rfl, q⟩ := q
  obtain ⟨t, rfl⟩ := rx
  obtain ⟨t', rfl⟩ := ry
  exact rule i j t t' _ s2 ⟨.bl _, H2, I2, rfl, q⟩
theorem pc_lt (ha : PE X a ta) (hb : PE X b tb) : PC X .Lt a b (tLt ta tb) := pc_int ha hb fun _ _ _ _ _ _ h => lt_int h
theorem pc_le (ha : PE X a ta) (hb : PE X b tb) : PC X .LtE a b (tLe ta tb) := pc_int ha hb fun _ _ _ _ _ _ h => le_int h
theorem pc_gt (ha : PE X a ta) (hb : PE X b tb) : PC X .Gt a b (tGt ta tb) := pc_int ha hb fun _ _ _ _ _ _ h => gt_int h
theorem pc_ge (ha : PE X a ta) (hb : PE X b tb) : PC X .GtE a b (tGe ta tb) := pc_int ha hb fun _ _ _ _ _ _ h => ge_int h
theorem pc_eqI (ha : PE X a ta) (hb : PE X b tb) : PC X .Eq a b (tEqI ta tb) := pc_int ha hb fun _ _ _ _ _ _ h => eq_int (by rw [Bool.beq_eq_decide_eq]; exact h)
theorem pc_neI (ha : PE X a ta) (hb : PE X b tb) : PC X .NotEq a b (tNeI ta tb) := pc_int ha hb fun _ _ _ _ _ _ h => ne_int (by rw [bne, Bool.beq_eq_decide_eq]; exact h)
/-- is None -/
def tIsN (ta : TE) : TE := fun σ H Q => ta σ H fun x H1 => Q (.bl (decide (x = .non))) H1
def tNotN (ta : TE) : TE := fun σ H Q => ta σ H fun x H1 => Q (.bl (!decide (x = .non))) H1
theorem RelV.none_iff {x : V} {v : Value} (r : RelV x v) : (v == Value.none) = decide (x = .non) := by
  cases x with
  | non => cases r; rfl
  | bl _ => cases r; rfl
  | int _ => obtain ⟨t, rfl⟩ := r; rfl
  | str _ => obtain ⟨t, rfl⟩ := r; rfl
  | byt _ => obtain ⟨t, rfl⟩ := r; rfl
  | flt _ => obtain ⟨t, rfl⟩ := r; rfl
  | ref _ => cases r; rfl
  | ty _ => cases r; rfl
theorem pc_isN {j pos'} (ha : PE X a ta) : PC X .Is a (.Constant .none j pos') (tIsN ta) := by
  intro pins s σ H Q I h
  refine thn (ha pins s σ H _ I h) fun v s1 ⟨x, H1, I1, r1, q1⟩ => ?_
  exact Constant_none (is_none_gen ⟨.bl _, H1, I1, by rw [r1.none_iff]; rfl, q1⟩)
theorem pc_notN {j pos'} (ha : PE X a ta) : PC X .IsNot a (.Constant .none j pos') (tNotN ta) := by
  intro pins s σ H Q I h
  refine thn (ha pins s σ H _ I h) fun v s1 ⟨x, H1, I1, r1, q1⟩ => ?_
  exact Constant_none (isnot_none_gen ⟨.bl _, H1, I1, by rw [r1.none_iff]; rfl, q1⟩)
/-- a comparison as a value, as a test -/
def tB (t : TE) : TT := fun σ H Q => t σ H fun x H1 => ∃ c, x = .bl c ∧ Q c H1
theorem pe_cmp {op : CmpOp} {t : TE} (h : PC X op a b t) (h1 : behindInMarks op b = false := by first | exact nobehind _ (by decide) (by decide) | rfl) : PE X (.Compare a [op] [b] pos) t := fun pins s σ H Q I hw => wpAny_Compare1 (h pins s σ H Q I hw) h1
theorem pt_cmp {op : CmpOp} {t : TE} (h : PC X op a b t) (h1 : behindInMarks op b = false := by first | exact nobehind _ (by decide) (by decide) | rfl) : PT X (.Compare a [op] [b] pos) (tB t) := by
  intro pins s σ H Q I hw
  refine wpAny_isTrue_Compare1 (thn (h pins s σ H _ I hw) fun v s1 h1 => thn h1 fun u s2 h2 => thn h2 fun c s3 ⟨x, H1, I1, r1, q1⟩ => ?_) h1
  obtain ⟨d, rfl, q⟩ := q1
  cases r1
  exact wpAny_truthy_bool ⟨H1, I1, q⟩
/-- an expression whose value is a bool, as a test -/
theorem pt_val {e : Expr} {t : TE} (h : PE X e t) (he : ∀ whole, isTrue e X.env whole = (do let v ← whole; standAt e.pos; holding [v] (truthy v)) := by intro _; rfl) : PT X e (tB t) := by
  intro pins s σ H Q I hw
  refine isTrue_plain (thn (h pins s σ H _ I hw) fun v s1 ⟨x, H1, I1, r1, q1⟩ => ?_) (he _)
  obtain ⟨d, rfl, q⟩ := q1
  cases r1
  exact wpAny_truthy_bool ⟨H1, I1, q⟩

/-! ### and, or, not -/
variable {tA tB' : TT} {rest : List Expr}
def tAnd (t u : TT) : TT := fun σ H Q => t σ H fun c H1 => if c = true then u σ H1 Q else Q false H1
def tOr (t u : TT) : TT := fun σ H Q => t σ H fun c H1 => if c = true then Q true H1 else u σ H1 Q
def tNot (t : TT) : TT := fun σ H Q => t σ H fun c H1 => Q (!c) H1
theorem pw_and1 (ha : PT X a tA) : PW X (.BoolOp .And [a] pos) tA := by
  intro wh pins s σ H Q I h
  refine isTrue_and (thn (ha pins s σ H Q I h) fun c s1 e => ?_)
  cases c with
  | true => exact isTrue_and_nil e
  | false => exact e
theorem pw_or1 (ha : PT X a tA) : PW X (.BoolOp .Or [a] pos) tA := by
  intro wh pins s σ H Q I h
  refine isTrue_or (thn (ha pins s σ H Q I h) fun c s1 e => ?_)
  cases c with
  | false => exact isTrue_or_nil e
  | true => exact e
theorem pw_and (ha : PT X a tA) (hb : PW X (.BoolOp .And (b :: rest) pos) tB') : PW X (.BoolOp .And (a :: b :: rest) pos) (tAnd tA tB') := by
  intro wh pins s σ H Q I h
  refine isTrue_and (thn (ha pins s σ H _ I h) fun c s1 ⟨H1, I1, q1⟩ => ?_)
  cases c with
  | true => exact hb wh pins s1 σ H1 Q I1 q1
  | false => exact ⟨H1, I1, q1⟩
theorem pw_or (ha : PT X a tA) (hb : PW X (.BoolOp .Or (b :: rest) pos) tB') : PW X (.BoolOp .Or (a :: b :: rest) pos) (tOr tA tB') := by
  intro wh pins s σ H Q I h
  refine isTrue_or (thn (ha pins s σ H _ I h) fun c s1 ⟨H1, I1, q1⟩ => ?_)
  cases c with
  | true => exact ⟨H1, I1, q1⟩
  | false => exact hb wh pins s1 σ H1 Q I1 q1
theorem pt_not (ha : PT X a tA) : PT X (.UnaryOp .Not a pos) (tNot tA) := by
  intro pins s σ H Q I h
  exact isTrue_not (ha pins s σ H (fun c H1 => Q (!c) H1) I h)
/-- .. as values (bools) -/
def tAndV (ta tb : TE) : TE := fun σ H Q => ta σ H fun x H1 => ∃ c, x = .bl c ∧ if c = true then tb σ H1 Q else Q (.bl false) H1
def tOrV (ta tb : TE) : TE := fun σ H Q => ta σ H fun x H1 => ∃ c, x = .bl c ∧ if c = true then Q (.bl true) H1 else tb σ H1 Q
def tNotV (ta : TE) : TE := fun σ H Q => ta σ H fun x H1 => ∃ c, x = .bl c ∧ Q (.bl (!c)) H1
theorem pe_one {op} {t : TE} (h : PE X a t) : PE X (.BoolOp op [a] pos) t := fun pins s σ H Q I hw => BoolOp_one (h pins s σ H Q I hw)
theorem pe_and (ha : PE X a ta) (hb : PE X (.BoolOp .And (b :: rest) pos) tb) : PE X (.BoolOp .And (a :: b :: rest) pos) (tAndV ta tb) := by
  intro pins s σ H Q I h
  refine BoolOp_and (thn (ha pins s σ H _ I h) fun v s1 ⟨x, H1, I1, r1, q1⟩ => ?_)
  obtain ⟨c, rfl, q1⟩ := q1
  cases r1
  refine wpAny_truthy_bool ?_
  cases c with
  | true => exact hb pins s1 σ H1 Q I1 q1
  | false => exact ⟨.bl false, H1, I1, rfl, q1⟩
theorem pe_or (ha : PE X a ta) (hb : PE X (.BoolOp .Or (b :: rest) pos) tb) : PE X (.BoolOp .Or (a :: b :: rest) pos) (tOrV ta tb) := by
  intro pins s σ H Q I h
  refine BoolOp_or (thn (ha pins s σ H _ I h) fun v s1 ⟨x, H1, I1, r1, q1⟩ => ?_)
  obtain ⟨c, rfl, q1⟩ := q1
  cases r1
  refine wpAny_truthy_bool ?_
  cases c with
  | false => exact hb pins s1 σ H1 Q I1 q1
  | true => exact ⟨.bl true, H1, I1, rfl, q1⟩
theorem pe_not (ha : PE X a ta) : PE X (.UnaryOp .Not a pos) (tNotV ta) := by
  intro pins s σ H Q I h
  refine UnaryOp_ (thn (ha pins s σ H _ I h) fun v s1 ⟨x, H1, I1, r1, q1⟩ => ?_)
  obtain ⟨c, rfl, q1⟩ := q1
  cases r1
  exact not_of (wpAny_truthy_bool ⟨.bl (!c), H1, I1, rfl, q1⟩)
/-- a if t else b -/
def tIf (t : TT) (ta tb : TE) : TE := fun σ H Q => t σ H fun c H1 => if c = true then ta σ H1 Q else tb σ H1 Q
theorem pe_ifExp {c : Expr} (hc : PT X c tA) (ha : PE X a ta) (hb : PE X b tb) : PE X (.IfExp c a b pos) (tIf tA ta tb) := by
  intro pins s σ H Q I h
  refine wpAny_IfExp (thn (hc pins s σ H _ I h) fun d s1 ⟨H1, I1, q1⟩ => ?_)
  cases d with
  | true => exact ha pins s1 σ H1 Q I1 q1
  | false => exact hb pins s1 σ H1 Q I1 q1
end
end L2

namespace L2
open PySem PySem.Spec PyProof.Rows

/-! ### a list, a tuple that is read: tracked, frozen, or an object of the module -/
def SqL (K : PySem.W.Frag) (H : Hp) (a : Addr) (xs : List V) : Prop :=
  Rd H a (.lst xs) ∨
    ∃ (o : Obj) (its : Array Value) (n : Nat), K.lookup a = some o ∧ o.cls = .type "list" ∧ o.dict = none ∧ o.data = .seq its n ∧ its.size ≤ sizeLine ∧ Vals xs its.toList
def SqT (K : PySem.W.Frag) (H : Hp) (a : Addr) (xs : List V) : Prop :=
  Rd H a (.tup xs) ∨
    ∃ (o : Obj) (its : Array Value) (n : Nat), K.lookup a = some o ∧ o.cls = .type "tuple" ∧ o.data = .seq its n ∧ its.size ≤ sizeLine ∧ Vals xs its.toList
def absV : Value → Option V
  | .none => some .non
  | .bool b => some (.bl b)
  | .int i _ => some (.int i)
  | .str x _ => some (.str x)
  | .bytes b _ => some (.byt b)
  | .float b _ => some (.flt b)
  | .ref a => some (.ref a)
  | .type n => some (.ty n)
  | _ => none
theorem RelV.abs {x : V} {u : Value} (r : RelV x u) : absV u = some x := by
  cases x with
  | non => cases r; rfl
  | bl _ => cases r; rfl
  | int _ => obtain ⟨t, rfl⟩ := r; rfl
  | str _ => obtain ⟨t, rfl⟩ := r; rfl
  | byt _ => obtain ⟨t, rfl⟩ := r; rfl
  | flt _ => obtain ⟨t, rfl⟩ := r; rfl
  | ref _ => cases r; rfl
  | ty _ => cases r; rfl
theorem RelV.inj {x y : V} {u : Value} (r : RelV x u) (q : RelV y u) : x = y := Option.some.inj (r.abs.symm.trans q.abs)
theorem Vals.inj : ∀ {xs ys : List V} {us : List Value}, Vals xs us → Vals ys us → xs = ys
  | _, _, _, .nil, .nil => rfl
  | _, _, _, .cons r t, .cons r' t' => by rw [r.inj r', Vals.inj t t']
section
variable {X : Cx} {pins : List (Addr × Obj)} {σ : St} {H : Hp} {s : Shared} {a : Addr} {xs ys : List V}
theorem SqL.of {K : PySem.W.Frag} (h : H a = some (.lst xs)) : SqL K H a xs := .inl (.inl h)
theorem SqT.of {K : PySem.W.Frag} (h : H a = some (.tup xs)) : SqT K H a xs := .inl (.inl h)
theorem Inv.list (I : Inv X pins σ H s) (h : SqL X.K H a xs) : ∃ its : List Value, Vals xs its ∧ PlainL s.heap a its.toArray ∧ xs.length ≤ sizeLine := by
  rcases h with h | ⟨o, its, n, hk, hc, hd, hs, hz, r⟩
  · obtain ⟨z, its, n, r, e⟩ := h.ok I.hok
    exact ⟨its, r, ⟨_, n, e, rfl, rfl, rfl⟩, z⟩
  · refine ⟨its.toList, r, ⟨o, n, I.kIn a o hk, hc, hd, by simpa using hs⟩, ?_⟩
    have e := r.length
    simp only [Array.length_toList] at e
    omega
theorem Inv.tuple (I : Inv X pins σ H s) (h : SqT X.K H a xs) : ∃ its : List Value, Vals xs its ∧ IsTup s.heap a its.toArray ∧ xs.length ≤ sizeLine := by
  rcases h with h | ⟨o, its, n, hk, hc, hs, hz, r⟩
  · obtain ⟨z, its, r, p⟩ := h.ok I.hok
    exact ⟨its, r, p, z⟩
  · refine ⟨its.toList, r, ⟨o, I.kIn a o hk, hc, n, by simpa using hs⟩, ?_⟩
    have e := r.length
    simp only [Array.length_toList] at e
    omega
theorem Inv.list_inj (I : Inv X pins σ H s) (h : SqL X.K H a xs) (h' : SqL X.K H a ys) : xs = ys := by
  obtain ⟨its, r, ⟨o, n, e, _, _, d⟩, _⟩ := I.list h
  obtain ⟨its', r', ⟨o', n', e', _, _, d'⟩, _⟩ := I.list h'
  rw [e] at e'; cases e'
  rw [d] at d'
  injection d' with d1 _
  have : its = its' := by simpa using congrArg Array.toList d1
  subst this
  exact r.inj r'
theorem Inv.tuple_inj (I : Inv X pins σ H s) (h : SqT X.K H a xs) (h' : SqT X.K H a ys) : xs = ys := by
  obtain ⟨its, r, ⟨o, e, _, n, d⟩, _⟩ := I.tuple h
  obtain ⟨its', r', ⟨o', e', _, n', d'⟩, _⟩ := I.tuple h'
  rw [e] at e'; cases e'
  rw [d] at d'
  injection d' with d1 _
  have : its = its' := by simpa using congrArg Array.toList d1
  subst this
  exact r.inj r'
end

/-! ### another wish about exceptions -/
abbrev Cx.wish (X : Cx) (E : Value → Shared → Prop) : Cx := { X with xe := E }
/-- no exception leaves -/
abbrev Cx.nox (X : Cx) : Cx := X.wish fun _ _ => False
theorem Cx.Ok.wish {X : Cx} (ok : X.Ok) (E : Value → Shared → Prop) : (X.wish E).Ok :=
  ⟨ok.mod, ok.kind, ok.glob, ok.blt, ok.above, ok.inj, ok.has, ok.cab, ok.hd, ok.frames, ok.stk, ok.exf, ok.bs, ok.bsz, ok.noex, ok.exfs, ok.funs, ok.frf⟩
theorem Cx.Ok.unwish {X : Cx} {E : Value → Shared → Prop} (ok : (X.wish E).Ok) : X.Ok :=
  ⟨ok.mod, ok.kind, ok.glob, ok.blt, ok.above, ok.inj, ok.has, ok.cab, ok.hd, ok.frames, ok.stk, ok.exf, ok.bs, ok.bsz, ok.noex, ok.exfs, ok.funs, ok.frf⟩
section
variable {X : Cx} {pins : List (Addr × Obj)} {σ : St} {H : Hp} {s : Shared} {E : Value → Shared → Prop}
theorem Inv.wish (I : Inv X pins σ H s) (E : Value → Shared → Prop) : Inv (X.wish E) pins σ H s := ⟨I.ok.wish E, I.os, I.bare, I.base, I.loc, I.cell, I.free, I.freeC, I.pin, I.hok, I.len⟩
theorem Inv.unwish (I : Inv (X.wish E) pins σ H s) : Inv X pins σ H s := ⟨I.ok.unwish, I.os, I.bare, I.base, I.loc, I.cell, I.free, I.freeC, I.pin, I.hok, I.len⟩
theorem SP.unwish {D : Ends} {f : Flow} {s' : Shared} (h : SP (X.wish E) pins D f s') : SP X pins D f s' := by
  cases f with
  | next => obtain ⟨σ', H', I, q⟩ := h; exact ⟨σ', H', I.unwish, q⟩
  | brk => obtain ⟨σ', H', I, q⟩ := h; exact ⟨σ', H', I.unwish, q⟩
  | cont => obtain ⟨σ', H', I, q⟩ := h; exact ⟨σ', H', I.unwish, q⟩
  | ret u => obtain ⟨v, σ', H', I, r, q⟩ := h; exact ⟨v, σ', H', I.unwish, r, q⟩
theorem PE.nox {e : Expr} {t : TE} (h : PE X.nox e t) : PE X e t := fun pins s σ H Q I hw =>
  wpAny_mono (h pins s σ H Q (I.wish _) hw) (fun _ _ ⟨v, H', I', r, q⟩ => ⟨v, H', I'.unwish, r, q⟩) fun _ _ z => False.elim z
theorem PT.nox {e : Expr} {t : TT} (h : PT X.nox e t) : PT X e t := fun pins s σ H Q I hw =>
  wpAny_mono (h pins s σ H Q (I.wish _) hw) (fun _ _ ⟨H', I', q⟩ => ⟨H', I'.unwish, q⟩) fun _ _ z => False.elim z
theorem PSs.nox {st : List Stmt} {t : TS} (h : PSs X.nox st t) : PSs X st t := fun pins s σ H D I hw =>
  wpAny_mono (h pins s σ H D (I.wish _) hw) (fun _ _ q => q.unwish) fun _ _ z => False.elim z
end

/-! ### blocks and small statements -/
section
variable {X : Cx} {st : Stmt} {rest : List Stmt} {t u : TS} {e : Expr} {te : TE} {pos : Pos}
def tNext : TS := fun D σ H => D.nx σ H
def tSeq (t u : TS) : TS := fun D σ H => t { D with nx := u D } σ H
theorem pss_nil : PSs X [] tNext := fun _ _ σ H _ I h => wpAny_execs_nil ⟨σ, H, I, h⟩
theorem pss_cons (h1 : PS X st t) (h2 : PSs X rest u) : PSs X (st :: rest) (tSeq t u) := by
  intro pins s σ H D I h
  refine wpAny_execs_cons (thn (h1 pins s σ H { D with nx := u D } I h) fun f s1 q => ?_)
  cases f with
  | next =>
    obtain ⟨σ', H', I', q⟩ := q
    exact h2 pins s1 σ' H' D I' q
  | ret v => exact q
  | brk => exact q
  | cont => exact q
theorem pss_one (h1 : PS X st t) : PSs X [st] t := by
  intro pins s σ H D I h
  refine wpAny_execs_cons (thn (h1 pins s σ H D I h) fun f s1 q => ?_)
  cases f with
  | next => exact wpAny_execs_nil q
  | ret v => exact q
  | brk => exact q
  | cont => exact q
def tBreak : TS := fun D σ H => D.bk σ H
def tCont : TS := fun D σ H => D.ct σ H
theorem ps_pass : PS X (.Pass pos) tNext := fun _ _ σ H _ I h => wpAny_Pass ⟨σ, H, I, h⟩
theorem ps_break : PS X (.Break pos) tBreak := fun _ _ σ H _ I h => wpAny_Break ⟨σ, H, I, h⟩
theorem ps_continue : PS X (.Continue pos) tCont := fun _ _ σ H _ I h => wpAny_Continue ⟨σ, H, I, h⟩
/-- in a def's body nothing is shown -/
theorem Inv.quiet {pins : List (Addr × Obj)} {σ : St} {H : Hp} {s : Shared} (I : Inv X pins σ H s) : interactive X.env = false := by simp [interactive, I.ok.kind]
/-- a docstring -/
theorem ps_doc {x j pos pos'} : PS X (.Expr (.Constant (.str x) j pos) pos') tNext := fun _ s σ H _ I h => wpAny_Expr (Calls.Constant_str (show SP X _ _ .next { s with toks := s.toks + 1 } from ⟨σ, H, I.tok _, h⟩)) I.quiet
/-- an expression whose value is dropped -/
def tDrop (te : TE) : TS := fun D σ H => te σ H fun _ H1 => D.nx σ H1
theorem ps_expr (he : PE X e te) (hs : swapsWith e none pos.line X.env = pure false := by rfl) : PS X (.Expr e pos) (tDrop te) := by
  intro pins s σ H D I h
  exact wpAny_Expr_any (thn (he pins s σ H _ I h) fun v s1 ⟨x, H1, I1, r1, q1⟩ => ⟨σ, H1, I1, q1⟩) I.quiet hs
def tRet (te : TE) : TS := fun D σ H => te σ H D.rt
theorem ps_ret (he : PE X e te) : PS X (.Return (some e) pos) (tRet te) := by
  intro pins s σ H D I h
  exact wpAny_Return_some (thn (he pins s σ H _ I h) fun v s1 ⟨x, H1, I1, r1, q1⟩ => ⟨x, σ, H1, I1, r1, q1⟩)
def tRetN : TS := fun D _ H => D.rt .non H
theorem ps_retN : PS X (.Return none pos) tRetN := fun _ _ σ H _ I h => wpAny_Return_none ⟨.non, σ, H, I, rfl, h⟩
def tIfS (c : TT) (t u : TS) : TS := fun D σ H => c σ H fun b H1 => if b = true then t D σ H1 else u D σ H1
theorem ps_if {c : Expr} {a b : List Stmt} {tc : TT} (hc : PT X c tc) (ha : PSs X a t) (hb : PSs X b u) : PS X (.If c a b pos) (tIfS tc t u) := by
  intro pins s σ H D I h
  refine wpAny_If (thn (hc pins s σ H _ I h) fun d s1 ⟨H1, I1, q1⟩ => ?_)
  cases d with
  | true => exact ha pins s1 σ H1 D I1 q1
  | false => exact hb pins s1 σ H1 D I1 q1
/-- code that the proof never comes to -/
def tNever : TS := fun _ _ _ => False
theorem ps_never : PS X st tNever := fun _ _ _ _ _ _ h => h.elim
theorem pss_never {sts : List Stmt} : PSs X sts tNever := fun _ _ _ _ _ _ h => h.elim
end

/-! ### targets -/
abbrev TG := V → St → Hp → (St → Hp → Prop) → Prop
abbrev TGs := List V → St → Hp → (St → Hp → Prop) → Prop
def PG (X : Cx) (target : Expr) (t : TG) : Prop :=
  ∀ (pins : List (Addr × Obj)) (s : Shared) (σ : St) (H : Hp) (v : V) (u : Value) (Q : St → Hp → Prop), Inv X pins σ H s → RelV v u → t v σ H Q →
    wpAny (model X.prog X.w) X.A (assign target X.env u) (fun _ s' => ∃ σ' H', Inv X pins σ' H' s' ∧ Q σ' H') X.xe s
/-- several targets, one after another -/
def PGs (X : Cx) (ts : List Expr) (t : TGs) : Prop :=
  ∀ (pins : List (Addr × Obj)) (s : Shared) (σ : St) (H : Hp) (vs : List V) (us : List Value) (Q : St → Hp → Prop), Inv X pins σ H s → Vals vs us → t vs σ H Q →
    wpAny (model X.prog X.w) X.A (assignInOrder ((assignEach ts X.env).map (·.2)) us) (fun _ s' => ∃ σ' H', Inv X pins σ' H' s' ∧ Q σ' H') X.xe s
/-- o[i] = v, by values -/
abbrev TSet := V → V → V → Hp → (Hp → Prop) → Prop
def PSet (X : Cx) (t : TSet) : Prop :=
  ∀ (pins : List (Addr × Obj)) (s : Shared) (σ : St) (H : Hp) (o i v : V) (ov iv u : Value) (Q : Hp → Prop), Inv X pins σ H s → RelV o ov → RelV i iv → RelV v u → t o i v H Q →
    wpAny (model X.prog X.w) X.A (setItem ov iv u) (fun _ s' => ∃ H', Inv X pins σ H' s' ∧ Q H') X.xe s
/-- a op= b, by values -/
abbrev TIp := V → V → Hp → VK → Prop
def PIp (X : Cx) (op : Operator) (t : TIp) : Prop :=
  ∀ (pins : List (Addr × Obj)) (s : Shared) (σ : St) (H : Hp) (x y : V) (v u : Value) (Q : VK), Inv X pins σ H s → RelV x v → RelV y u → t x y H Q →
    wpAny (model X.prog X.w) X.A (inplaceOp op v u) (EP X pins σ Q) X.xe s
section
variable {X : Cx} {pos : Pos}
def gName (i : Nat) : TG := fun v σ H Q => Q (σ.set i (some v)) H
theorem pg_name {i : Nat} {x : Str} (hN : X.N.Nodup) (hi : X.N[i]? = some x) (hx : Loc X.env.scope x) (hf : X.fn x = true ∨ X.env.scope.names.lookup x = some .local := by first | exact .inl rfl | exact .inr rfl | assumption) : PG X (.Name x pos) (gName i) := by
  intro pins s σ H v u Q I r h
  exact wpAny_assign_Name (store_ok I hN hi hx r (fun s' I' => ⟨_, H, I', h⟩) hf)
def gNil : TGs := fun vs σ H Q => vs = [] ∧ Q σ H
def gCons (t : TG) (u : TGs) : TGs := fun vs σ H Q => ∃ v r, vs = v :: r ∧ t v σ H fun σ' H' => u r σ' H' Q
theorem pgs_nil : PGs X [] gNil := by
  intro pins s σ H vs us Q I r h
  obtain ⟨e, h⟩ := h
  subst e
  cases r
  exact assignInOrder_nil ⟨σ, H, I, h⟩
theorem pgs_cons {e : Expr} {es : List Expr} {t : TG} {u : TGs} (h1 : PG X e t) (h2 : PGs X es u)
    (hs : (assignEach (e :: es) X.env).map (·.2) = assign e X.env :: (assignEach es X.env).map (·.2) := by rfl) : PGs X (e :: es) (gCons t u) := by
  intro pins s σ H vs us Q I r h
  obtain ⟨v, vr, e1, h⟩ := h
  subst e1
  cases r with
  | cons r rr =>
    rw [hs]
    refine assignInOrder_cons (thn (h1 pins s σ H _ _ _ I r h) fun _ s1 ⟨σ1, H1, I1, q1⟩ => ?_)
    exact h2 pins s1 σ1 H1 _ _ Q I1 rr q1
/-- (a, b, ..) = a tuple of that length -/
def gTup (K : PySem.W.Frag) (n : Nat) (t : TGs) : TG := fun v σ H Q => ∃ a xs, v = .ref a ∧ SqT K H a xs ∧ xs.length = n ∧ t xs σ H Q
theorem pg_tup {es : List Expr} {k : Nat} {t : TGs} {n : Nat} (hc : X.calm = true) (h : PGs X es t)
    (hn : (assignEach es X.env).length = n := by rfl) (hst : (assignEach es X.env).findIdx? (·.1) = none := by rfl) : PG X (.Tuple es k pos) (gTup X.K n t) := by
  intro pins s σ H v u Q I r hw
  obtain ⟨a, xs, e1, hq, hl, hw⟩ := hw
  subst e1
  cases r
  obtain ⟨its, rv, ht, hz⟩ := I.tuple hq
  refine assign_Tuple_tuple (I.ok.hd hc) ht (by simp [hn, ← hl, rv.length]) hst fun h' hx => ?_
  have I1 : Inv X pins σ H { s with heap := h' } := I.kept (t' := s.toks) fun b o e => hx b o (Nat.ne_of_lt (Heap.lt_size e)) e
  exact h pins _ σ H xs _ Q I1 (by simpa using rv) hw
/-- o[i] = .. -/
def gSub (to ti : TE) (t : TSet) : TG := fun v σ H Q => to σ H fun o H1 => ti σ H1 fun i H2 => t o i v H2 fun H3 => Q σ H3
theorem pg_sub {o i : Expr} {to ti : TE} {t : TSet} (ho : PE X o to) (hi : PE X i ti) (hs : PSet X t)
    (ha : ∀ v, assign (.Subscript o i pos) X.env v = (do
      let ov ← holding [v] (eval o X.env)
      let iv ← holding [v, ov] (eval i X.env)
      standAt pos
      holding [v, ov, iv] (setItem ov iv v)
      release [v, ov, iv] []) := by intro _; rfl) : PG X (.Subscript o i pos) (gSub to ti t) := by
  intro pins s σ H v u Q I r h
  rw [ha]
  refine wpAny_bind (wpAny_holding (thn (ho pins s σ H _ I h) fun ov s1 ⟨x, H1, I1, r1, q1⟩ => ?_))
  refine wpAny_bind (wpAny_holding (thn (hi pins s1 σ H1 _ I1 q1) fun iv s2 ⟨y, H2, I2, r2, q2⟩ => ?_))
  refine wpAny_bind (wpAny_standAt (wpAny_bind (wpAny_holding (thn (hs pins s2 σ H2 x y v ov iv u _ I2 r1 r2 r q2) fun _ s3 ⟨H3, I3, q3⟩ => ?_))))
  exact wpAny_release ⟨σ, H3, I3, q3⟩
/-- target = value -/
def tAsg (te : TE) (g : TG) : TS := fun D σ H => te σ H fun x H1 => g x σ H1 D.nx
theorem ps_asg {tg e : Expr} {te : TE} {g : TG} (he : PE X e te) (hg : PG X tg g) (hs : swapsWithSole [tg] e pos.line X.env = pure false := by rfl) (hw : swappedStores [tg] e X.env = pure none := by rfl)
    (h1 : (assignEach [tg] X.env).map (·.2) = [assign tg X.env] := by rfl) : PS X (.Assign [tg] e pos) (tAsg te g) := by
  intro pins s σ H D I h
  refine wpAny_Assign_stores (thn (he pins s σ H _ I h) fun v s1 ⟨x, H1, I1, r1, q1⟩ => ?_) hs hw
  rw [h1]
  exact thn (hg pins s1 σ H1 x v _ I1 r1 q1) fun _ s2 q => q
/-- name = value -/
theorem ps_set {i : Nat} {x : Str} {e : Expr} {te : TE} {pos' : Pos} (hN : X.N.Nodup) (hi : X.N[i]? = some x) (hx : Loc X.env.scope x) (he : PE X e te) (hs : swapsWith e (some (.Name x pos')) pos.line X.env = pure false := by rfl) (hf : X.fn x = true ∨ X.env.scope.names.lookup x = some .local := by first | exact .inl rfl | exact .inr rfl | assumption) :
    PS X (.Assign [.Name x pos'] e pos) (tAsg te (gName i)) := by
  intro pins s σ H D I h
  refine wpAny_Assign_Name (thn (he pins s σ H _ I h) fun v s1 ⟨y, H1, I1, r1, q1⟩ => ?_) hs
  exact store_ok I1 hN hi hx r1 (fun s2 I2 => ⟨_, H1, I2, q1⟩) hf
/-- a, b = x, y with plain local names: stored from the right; the pair itself is not tracked (the opening rows as in PyProof/Rows/TupAssign.lean:23) -/
def tPar (i j : Nat) (ta : TA) : TS := fun D σ H => ta σ H fun vs H1 => ∃ v w, vs = [v, w] ∧ D.nx ((σ.set i (some v)).set j (some w)) H1
theorem ps_par {i j : Nat} {x y : Str} {a b : Expr} {ta : TA} {px py pt : Pos} {kt k2 pt2} (hc : X.calm = true) (hN : X.N.Nodup) (hi : X.N[i]? = some x) (hj : X.N[j]? = some y) (hij : i ≠ j)
    (hx : X.env.scope.names.lookup x = some .local) (hy : X.env.scope.names.lookup y = some .local) (ha : PA X [a, b] ta)
    (hw : swappedStores [.Tuple [.Name x px, .Name y py] kt pt] (.Tuple [a, b] k2 pt2) X.env = pure (some [x, y]))
    (hs : swapsWithSole [.Tuple [.Name x px, .Name y py] kt pt] (.Tuple [a, b] k2 pt2) pos.line X.env = pure false := by rfl) :
    PS X (.Assign [.Tuple [.Name x px, .Name y py] kt pt] (.Tuple [a, b] k2 pt2) pos) (tPar i j ta) := by
  intro pins s σ H D I h
  rw [exec_Assign_arm]
  refine wpAny_bind (wpAny_standAt ?_)
  rw [hs]
  refine wpAny_bind (wpAny_pure ?_)
  rw [if_neg (by decide)]
  refine wpAny_bind (Tuple_ (thn (ha _ pins s σ H _ I h) fun us s1 ⟨vs, H1, I1, r1, q1⟩ => ?_))
  obtain ⟨v, w, e1, q1⟩ := q1
  subst e1
  obtain ⟨u1, u2, rfl, rv, rw'⟩ : ∃ u1 u2, us = [u1, u2] ∧ RelV v u1 ∧ RelV w u2 := by
    cases r1 with
    | cons p q =>
      cases q with
      | cons p' q' =>
        cases q'
        exact ⟨_, _, rfl, p, p'⟩
  refine wpAny_newObj_type ?_ (by show 2 ≤ sizeLine; decide)
  have I2 : Inv X pins σ H1 { s1 with heap := s1.heap.push { cls := .type "tuple", data := .seq [u1, u2].toArray } } := I1.kept (t' := s1.toks) fun b o e => Heap.get?_push_of_some _ e
  rw [hw]
  refine wpAny_bind (wpAny_pure ?_)
  show wpAny (model X.prog X.w) X.A (do rule "assign.swapped-stores"; let items ← unpackItems (.ref s1.heap.objs.size) 2 none; assignInOrder [fun v => bindName X.env y v, fun v => bindName X.env x v] items.reverse; pure Flow.next) _ _ _
  refine wpAny_bind (wpAny_rule (wpAny_bind (unpackItems_tuple (items := #[u1, u2]) (I.ok.hd hc) (IsTup.new s1.heap _) fun h' hx' => ?_)))
  have I3 := I2.kept (h' := h') (t' := s1.toks) fun b o e => hx' b o (Nat.ne_of_lt (Heap.lt_size e)) e
  show wpAny _ _ (assignInOrder [fun v => bindName X.env y v, fun v => bindName X.env x v] [u2, u1] >>= fun _ => pure Flow.next) _ _ _
  refine wpAny_bind (assignInOrder_cons (wpAny_bindName (store_ok I3 hN hj (.inl hy) rw' (fun s2 I4 => ?_) (.inr hy))))
  refine assignInOrder_cons (wpAny_bindName (store_ok I4 hN hi (.inl hx) rv (fun s3 I5 => assignInOrder_nil (wpAny_pure ?_)) (.inr hx)))
  rw [List.set_comm _ _ (Ne.symm hij)] at I5
  exact ⟨_, H1, I5, q1⟩
/-- name op= e -/
def tAug (i : Nat) (te : TE) (ti : TIp) : TS := fun D σ H => ∃ x, σ[i]? = some (some x) ∧ te σ H fun y H1 => ti x y H1 fun z H2 => D.nx (σ.set i (some z)) H2
theorem ps_aug {i : Nat} {x : Str} {e : Expr} {te : TE} {op : Operator} {ti : TIp} {pos' : Pos} (hN : X.N.Nodup) (hi : X.N[i]? = some x) (hx : Loc X.env.scope x) (he : PE X e te) (ho : PIp X op ti) (hf : X.fn x = true ∨ X.env.scope.names.lookup x = some .local := by first | exact .inl rfl | exact .inr rfl | assumption) :
    PS X (.AugAssign (.Name x pos') op e pos) (tAug i te ti) := by
  intro pins s σ H D I h
  obtain ⟨v, e1, h⟩ := h
  obtain ⟨m, hn, hl⟩ := I.loc
  have vis : Vis X.env.scope x := by rcases hx with k | k; exact .inl k; exact .inr (.inl k)
  obtain ⟨u, r, l⟩ := hl i x v hi e1 vis
  refine wpAny_AugAssign_Name ?_
  have go : wpAny (model X.prog X.w) X.A (eval e X.env) (fun w s₂ => wpAny (model X.prog X.w) X.A (inplaceOp op u w) (fun r s₃ => wpAny (model X.prog X.w) X.A (storeName X.env x r) (fun _ => SP X pins D .next) X.xe s₃) X.xe s₂) X.xe s := by
    refine thn (he pins s σ H _ I h) fun w s1 ⟨y, H1, I1, r1, q1⟩ => ?_
    refine thn (ho pins s1 σ H1 v y u w _ I1 r r1 q1) fun z s2 ⟨zv, H2, I2, r2, q2⟩ => ?_
    exact store_ok I2 hN hi hx r2 (fun s3 I3 => ⟨_, H2, I3, q2⟩) hf
  rcases l with ⟨hk, hm⟩ | ⟨hk, c, hc, hcell⟩
  · exact wpAny_loadName_local I.ok.kind hk hn hm go
  · rcases hk with hk | hk
    · exact wpAny_loadName_cell I.ok.kind hk hc hcell go
    · rcases hx with k | k
      · have : X.env.scope.names.lookup x = some .free := hk
        rw [k] at this; cases this
      · have : X.env.scope.names.lookup x = some .free := hk
        rw [k] at this; cases this
/-- o[i] op= e -/
def tAugS (to ti te : TE) (tget : V → V → Hp → VK → Prop) (tip : TIp) (tset : TSet) : TS := fun D σ H => to σ H fun o H1 => ti σ H1 fun i H2 => tget o i H2 fun x H3 => te σ H3 fun y H4 => tip x y H4 fun z H5 => tset o i z H5 fun H6 => D.nx σ H6
/-- o[i], by values -/
def PGet (X : Cx) (t : V → V → Hp → VK → Prop) : Prop :=
  ∀ (pins : List (Addr × Obj)) (s : Shared) (σ : St) (H : Hp) (o i : V) (ov iv : Value) (Q : VK), Inv X pins σ H s → RelV o ov → RelV i iv → t o i H Q →
    wpAny (model X.prog X.w) X.A (getItem ov iv) (EP X pins σ Q) X.xe s
theorem ps_augS {o i e : Expr} {to ti te : TE} {tget : V → V → Hp → VK → Prop} {tip : TIp} {tset : TSet} {op : Operator} {tpos : Pos} (ho : PE X o to) (hi : PE X i ti) (hg : PGet X tget) (he : PE X e te) (hp : PIp X op tip) (hs : PSet X tset)
    (ha : ∀ ov iv new, augStore i ov iv new = (do holding [new, ov, iv] (setItem ov iv new); release [new, ov, iv] []; pure .next) := by intros; rfl) : PS X (.AugAssign (.Subscript o i tpos) op e pos) (tAugS to ti te tget tip tset) := by
  intro pins s σ H D I h
  refine wpAny_AugAssign_SubscriptAny (thn (ho pins s σ H _ I h) fun ov s1 ⟨x1, H1, I1, r1, q1⟩ => ?_) ha
  refine thn (hi pins s1 σ H1 _ I1 q1) fun iv s2 ⟨x2, H2, I2, r2, q2⟩ => ?_
  refine thn (hg pins s2 σ H2 x1 x2 ov iv _ I2 r1 r2 q2) fun old s3 ⟨x3, H3, I3, r3, q3⟩ => ?_
  refine thn (he pins s3 σ H3 _ I3 q3) fun v s4 ⟨x4, H4, I4, r4, q4⟩ => ?_
  refine thn (hp pins s4 σ H4 x3 x4 old v _ I4 r3 r4 q4) fun new s5 ⟨x5, H5, I5, r5, q5⟩ => ?_
  exact thn (hs pins s5 σ H5 x1 x2 x5 ov iv new _ I5 r1 r2 r5 q5) fun _ s6 ⟨H6, I6, q6⟩ => ⟨σ, H6, I6, q6⟩
/-- ints -/
def ipI (f : Int → Int → Int) : TIp := fun x y H Q => ∃ i j, x = .int i ∧ y = .int j ∧ Q (.int (f i j)) H
theorem ip_add : PIp X .Add (ipI fun i j => i + j) := by
  intro pins s σ H x y v u Q I r1 r2 h
  obtain ⟨i, j, e1, e2, q⟩ := h
  subst e1; subst e2
  obtain ⟨t, rfl⟩ := r1
  obtain ⟨t', rfl⟩ := r2
  exact iadd_int ⟨.int _, H, I.tok _, ⟨_, rfl⟩, q⟩
theorem ip_sub : PIp X .Sub (ipI fun i j => i - j) := by
  intro pins s σ H x y v u Q I r1 r2 h
  obtain ⟨i, j, e1, e2, q⟩ := h
  subst e1; subst e2
  obtain ⟨t, rfl⟩ := r1
  obtain ⟨t', rfl⟩ := r2
  exact isub_int ⟨.int _, H, I.tok _, ⟨_, rfl⟩, q⟩
end

/-! ### while -/
section
variable {X : Cx} {pos : Pos}
/-- the invariant W with its measure -/
def tWhile (c : TT) (tb : TS) : TS := fun D σ H => ∃ W : Nat → St → Hp → Prop, (∃ m, W m σ H) ∧ ∀ m σ H, W m σ H →
  c σ H fun b H1 => if b = true then ∃ N : St → Hp → Prop, (∀ σ' H', N σ' H' → ∃ m', m' < m ∧ W m' σ' H') ∧ tb { D with nx := N, ct := N, bk := D.nx } σ H1 else D.nx σ H1
theorem ps_while {c : Expr} {body : List Stmt} {tc : TT} {tb : TS} (hp : PassesOwn (model X.prog X.w) X.A X.env X.xe) (hc : PT X c tc) (hb : PSs X body tb) : PS X (.While c body [] pos) (tWhile tc tb) := by
  intro pins s σ H D I h
  obtain ⟨W, ⟨m0, w0⟩, turn⟩ := h
  refine wpAny_While (codeAny_whileLoop (fun n s' => ∃ σ' H', Inv X pins σ' H' s' ∧ W n σ' H') ?_ m0 ⟨σ, H, I, w0⟩)
  rintro n s1 ⟨σ1, H1, I1, w1⟩
  refine wpAny_passesOwn hp (thn (hc pins s1 σ1 H1 _ I1 (turn n σ1 H1 w1)) fun b s2 ⟨H2, I2, q2⟩ => ?_)
  cases b with
  | true =>
    obtain ⟨N, hN, q2⟩ := q2
    rw [if_pos rfl]
    refine wpAny_passesOwn hp (thn (hb pins s2 σ1 H2 _ I2 q2) fun f s3 q3 => ?_)
    cases f with
    | next =>
      obtain ⟨σ3, H3, I3, n3⟩ := q3
      obtain ⟨m', hm, w3⟩ := hN σ3 H3 n3
      exact ⟨m', hm, σ3, H3, I3, w3⟩
    | cont =>
      obtain ⟨σ3, H3, I3, n3⟩ := q3
      obtain ⟨m', hm, w3⟩ := hN σ3 H3 n3
      exact ⟨m', hm, σ3, H3, I3, w3⟩
    | brk => exact q3
    | ret v => exact q3
  | false =>
    rw [if_neg Bool.false_ne_true]
    exact wpAny_execs_nil ⟨σ1, H2, I2, q2⟩
end

/-! ### what a loop or a comprehension walks -/
/-- at turn i: it yields x (the heap may grow), or it stops -/
structure It where
  go : Nat → Hp → Prop
  yld : Nat → Hp → V → Hp → Prop
  stop : Nat → Hp → Prop
/-- the iterator's own objects may turn: they are not the frame's, not pinned, younger than the entry (or a comprehension's own) -/
def FpOk (X : Cx) (pins : List (Addr × Obj)) (H : Hp) (b : Addr) : Prop :=
  H b = none ∧ b ≠ X.env.locals ∧ b ∉ X.fs ∧ (b ∈ X.ex ∨ X.s₀.heap.objs.size ≤ b) ∧ (∀ x c, X.env.cells.lookup x = some c → c ≠ b) ∧ ∀ p ∈ X.pn ++ pins, p.1 ≠ b
theorem Inv.fpOk {X : Cx} {pins : List (Addr × Obj)} {σ : St} {H H' : Hp} {s : Shared} {b : Addr} (I : Inv X pins σ H s) (hb : s.heap.objs.size ≤ b) (hn : H' b = none) : FpOk X pins H' b := by
  refine ⟨hn, Nat.ne_of_gt (Nat.lt_of_lt_of_le I.lt hb), I.nofs hb, .inr (Nat.le_trans I.sz hb), fun x c e z => ?_, fun p hp z => ?_⟩
  · obtain ⟨v, q⟩ := I.cell x c e
    exact absurd (Nat.lt_of_lt_of_le q.lt (by rw [z]; exact hb)) (Nat.lt_irrefl _)
  · exact absurd (Nat.lt_of_lt_of_le (Heap.lt_size (I.pin p hp).1) (by rw [z]; exact hb)) (Nat.lt_irrefl _)
structure Turn (P : Program) (w : World) (K : PySem.W.Frag) (tg : Expr) (J : It) (fp : List Addr) (it : Addr) (tn : Nat → Heap → Prop) : Prop where
  mem : it ∈ fp
  obj : ∀ i h, tn i h → ∀ b ∈ fp, ∃ o, h.get? b = some o ∧ ∀ v, o.data ≠ .cell v
  keep : ∀ i h h', tn i h → (∀ b ∈ fp, ∀ o, h.get? b = some o → h'.get? b = some o) → tn i h'
  item : ∀ (X : Cx), X.prog = P → X.w = w → X.K = K → X.calm = true → ∀ (i : Nat) (pins : List (Addr × Obj)) (s : Shared) (σ : St) (H : Hp) (E : Value → Shared → Prop), Inv X pins σ H s → (∀ b ∈ fp, FpOk X pins H b) → tn i s.heap → J.go i H →
    wpAny (model P w) X.A (pyNext (.ref it)) (fun r s1 => ∃ u, r = some u ∧
      wpAny (model P w) X.A (letOwnedTupleGo tg (.ref it) u) (fun _ s2 => ∃ x H', Inv X pins σ H' s2 ∧ RelV x u ∧ J.yld i H x H' ∧ tn (i + 1) s2.heap ∧ ∀ b ∈ fp, H' b = none) E s1) E s
  done : ∀ (X : Cx), X.prog = P → X.w = w → X.K = K → X.calm = true → ∀ (i : Nat) (pins : List (Addr × Obj)) (s : Shared) (σ : St) (H : Hp) (E : Value → Shared → Prop), Inv X pins σ H s → (∀ b ∈ fp, FpOk X pins H b) → tn i s.heap → J.stop i H →
    wpAny (model P w) X.A (pyNext (.ref it)) (fun r s1 => r = none ∧ Inv X pins σ H s1) E s
  self : ∀ (A : Around) (i : Nat) (s : Shared) (Q : Value → Shared → Prop) (E : Value → Shared → Prop), tn i s.heap → Q (.ref it) s → wpAny (model P w) A (pyIter (.ref it)) Q E s
abbrev TI := St → Hp → (It → Hp → Prop) → Prop
/-- an iterator has come -/
def PIE (X : Cx) (pins : List (Addr × Obj)) (σ : St) (tg : Expr) (R : It → Hp → Prop) (itv : Value) (s2 : Shared) : Prop :=
  ∃ (it : Addr) (fp : List Addr) (tn : Nat → Heap → Prop) (J : It) (H' : Hp), itv = .ref it ∧ Inv X pins σ H' s2 ∧ Turn X.prog X.w X.K tg J fp it tn ∧ tn 0 s2.heap ∧ (∀ b ∈ fp, FpOk X pins H' b) ∧ R J H'
def PI (X : Cx) (tg iter : Expr) (wi : TI) : Prop :=
  ∀ (pins : List (Addr × Obj)) (s : Shared) (σ : St) (H : Hp) (R : It → Hp → Prop), Inv X pins σ H s → wi σ H R →
    wpAny (model X.prog X.w) X.A (eval iter X.env) (fun v s1 => wpAny (model X.prog X.w) X.A (pyIter v) (PIE X pins σ tg R) X.xe s1) X.xe s

/-- the step ahead of the store is nothing for an iterator that keeps no tuple -/
theorem go_of {M : Model} {A : Around} {E : Value → Shared → Prop} {s : Shared} {tg : Expr} {it : Addr} {u : Value} {o : Obj} {n : String} {vs : Array Value} {Q : Unit → Shared → Prop} (ho : s.heap.get? it = some o) (hc : o.cls = .type n) (hd : o.data = .fields vs)
    (hn : ["enumerate", "zip", "dict_itemiterator", "dict_reverseitemiterator", "odict_iterator", "itertools.zip_longest", "itertools.pairwise"].contains n = false) (hQ : Q () s) : wpAny M A (letOwnedTupleGo tg (.ref it) u) Q E s := by
  unfold letOwnedTupleGo
  cases tg <;> first
    | exact wpAny_pure hQ
    | (cases u <;> first
        | exact wpAny_pure hQ
        | (refine wpAny_bind (wpAny_load ho ?_)
           rw [hc, hd]
           show wpAny M A (if (["enumerate", "zip", "dict_itemiterator", "dict_reverseitemiterator", "odict_iterator", "itertools.zip_longest", "itertools.pairwise"].contains n && vs[0]? == some (rawInt _)) = true then _ else _) Q E s
           rw [if_neg (by intro h; rw [hn, Bool.false_and] at h; cases h)]
           exact wpAny_pure hQ))

/-- the list at a, as it stands at each turn (a loop may append to it) -/
def Itl (K : PySem.W.Frag) (a : Addr) : It :=
  ⟨fun i H => ∃ xs x, SqL K H a xs ∧ xs[i]? = some x, fun i H x H' => H' = H ∧ ∀ xs, SqL K H a xs → xs[i]? = some x, fun i H => ∃ xs, SqL K H a xs ∧ xs.length ≤ i⟩
def Itt (K : PySem.W.Frag) (a : Addr) : It :=
  ⟨fun i H => ∃ xs x, SqT K H a xs ∧ xs[i]? = some x, fun i H x H' => H' = H ∧ ∀ xs, SqT K H a xs → xs[i]? = some x, fun i H => ∃ xs, SqT K H a xs ∧ xs.length ≤ i⟩
/-- lo, lo + 1, .. (n of them) -/
def Itr (lo : Int) (n : Nat) : It := ⟨fun i _ => i < n, fun i H x H' => H' = H ∧ x = .int (lo + i), fun i _ => n ≤ i⟩
theorem turn_list {P : Program} {w : World} {K : PySem.W.Frag} {tg : Expr} (a it : Addr) : Turn P w K tg (Itl K a) [it] it (fun i h => h.IsListIter it a i) where
  mem := by simp
  obj := fun i h st b hb => by
    have e : b = it := by simpa using hb
    subst e
    obtain ⟨o, e, c, d⟩ := st
    exact ⟨o, e, fun v z => by rw [d] at z; cases z⟩
  keep := fun i h h' st k => st.at fun o e => k it (by simp) o e
  item := by
    intro X hP hw hK hc i pins s σ H E I hf st hg
    subst hP hw hK
    obtain ⟨xs, x, hq, hx⟩ := hg
    obtain ⟨its, rv, p, hz⟩ := I.list hq
    obtain ⟨u, hu, ru⟩ := rv.get hx
    obtain ⟨f0, f1, f2, f3, f4, f5⟩ := hf it (by simp)
    refine wpAny_pyNext_list_item st p.isList (x := u) (by simpa using hu) fun h' st' sb => ?_
    have I1 : Inv X pins σ H { s with heap := h' } := I.turned (t' := s.toks) (fun b o hb e => (sb.2 b hb).trans e) f0 f1 f3 f4 f5
    obtain ⟨o, e, c, d⟩ := id st'
    exact ⟨u, rfl, go_of (s := { s with heap := h' }) e c d (by decide) ⟨x, H, I1, ru, ⟨rfl, fun ys hy => by rw [I.list_inj hy hq]; exact hx⟩, st', fun b hb => (hf b hb).1⟩⟩
  done := by
    intro X hP hw hK hc i pins s σ H E I hf st hg
    subst hP hw hK
    obtain ⟨xs, hq, hx⟩ := hg
    obtain ⟨its, rv, p, hz⟩ := I.list hq
    obtain ⟨f0, f1, f2, f3, f4, f5⟩ := hf it (by simp)
    have hl := rv.length
    exact wpAny_pyNext_list_end (I.ok.hd hc) st p.isList (by simp; omega) fun h' eb => ⟨rfl, I.turned (t' := s.toks) (fun b o hb e => eb b o hb e) f0 f1 f3 f4 f5⟩
  self := fun _ _ _ _ _ st h => wpAny_pyIter_listiter st h
theorem turn_tuple {P : Program} {w : World} {K : PySem.W.Frag} {tg : Expr} (a it : Addr) : Turn P w K tg (Itt K a) [it] it (fun i h => h.IsTupleIter it a i) where
  mem := by simp
  obj := fun i h st b hb => by
    have e : b = it := by simpa using hb
    subst e
    obtain ⟨o, e, c, d⟩ := st
    exact ⟨o, e, fun v z => by rw [d] at z; cases z⟩
  keep := fun i h h' st k => st.at fun o e => k it (by simp) o e
  item := by
    intro X hP hw hK hc i pins s σ H E I hf st hg
    subst hP hw hK
    obtain ⟨xs, x, hq, hx⟩ := hg
    obtain ⟨its, rv, p, hz⟩ := I.tuple hq
    obtain ⟨u, hu, ru⟩ := rv.get hx
    obtain ⟨f0, f1, f2, f3, f4, f5⟩ := hf it (by simp)
    refine wpAny_pyNext_tuple_item st (show s.heap.IsTuple a its.toArray from p) (x := u) (by simpa using hu) fun h' st' sb => ?_
    have I1 : Inv X pins σ H { s with heap := h' } := I.turned (t' := s.toks) (fun b o hb e => (sb.2 b hb).trans e) f0 f1 f3 f4 f5
    obtain ⟨o, e, c, d⟩ := id st'
    exact ⟨u, rfl, go_of (s := { s with heap := h' }) e c d (by decide) ⟨x, H, I1, ru, ⟨rfl, fun ys hy => by rw [I.tuple_inj hy hq]; exact hx⟩, st', fun b hb => (hf b hb).1⟩⟩
  done := by
    intro X hP hw hK hc i pins s σ H E I hf st hg
    subst hP hw hK
    obtain ⟨xs, hq, hx⟩ := hg
    obtain ⟨its, rv, p, hz⟩ := I.tuple hq
    obtain ⟨f0, f1, f2, f3, f4, f5⟩ := hf it (by simp)
    have hl := rv.length
    exact wpAny_pyNext_tuple_end (I.ok.hd hc) st (show s.heap.IsTuple a its.toArray from p) (by simp; omega) fun h' eb => ⟨rfl, I.turned (t' := s.toks) (fun b o hb e => eb b o hb e) f0 f1 f3 f4 f5⟩
  self := fun _ _ _ _ _ st h => wpAny_pyIter_tupleiter st h
theorem turn_range {P : Program} {w : World} {K : PySem.W.Frag} {tg : Expr} (it : Addr) (lo : Int) (n : Nat) : Turn P w K tg (Itr lo n) [it] it (fun i h => IsRangeIter h it (lo + (i : Nat) * 1) ((n : Int) - (i : Nat)) 1) where
  mem := by simp
  obj := fun i h st b hb => by
    have e : b = it := by simpa using hb
    subst e
    exact ⟨_, st, fun v z => by
      have z' : Data.fields _ = Data.cell v := z
      cases z'⟩
  keep := fun i h h' st k => k it (by simp) _ st
  item := by
    intro X hP hw hK hc i pins s σ H E I hf st hg
    subst hP hw hK
    obtain ⟨f0, f1, f2, f3, f4, f5⟩ := hf it (by simp)
    have W := Walks.range (prog := X.prog) (w := X.w) (I.ok.hd hc) it lo 1 n
    refine W.item i s _ _ hg st fun v h' tk hv st' kk => ?_
    obtain ⟨t, rfl⟩ := hv
    have I1 : Inv X pins σ H { s with heap := h', toks := tk } := I.turned (fun b o hb e => kk b o (by simpa using hb) e) f0 f1 f3 f4 f5
    refine ⟨_, rfl, go_of (s := { s with heap := h', toks := tk }) (n := "range_iterator") st' rfl rfl (by decide) ⟨.int (lo + i), H, I1, ⟨t, ?_⟩, ⟨rfl, rfl⟩, st', fun b hb => (hf b hb).1⟩⟩
    rw [Int.mul_one]
  done := by
    intro X hP hw hK hc i pins s σ H E I hf st hg
    subst hP hw hK
    obtain ⟨f0, f1, f2, f3, f4, f5⟩ := hf it (by simp)
    exact wpAny_pyNext_range_end (I.ok.hd hc) st (by have : n ≤ i := hg; omega) fun h' eb => ⟨rfl, I.turned (t' := s.toks) (fun b o hb e => eb b o hb e) f0 f1 f3 f4 f5⟩
  self := fun _ _ _ _ _ st h => wpAny_pyIter_rangeiter st h
end L2

namespace L2
open PySem PySem.Spec PyProof.Rows
section
variable {X : Cx} {tg : Expr}
def iList (K : PySem.W.Frag) (tl : TE) : TI := fun σ H R => tl σ H fun x H1 => ∃ a, x = .ref a ∧ (∃ xs, SqL K H1 a xs) ∧ R (Itl K a) H1
def iTup (K : PySem.W.Frag) (tl : TE) : TI := fun σ H R => tl σ H fun x H1 => ∃ a, x = .ref a ∧ (∃ xs, SqT K H1 a xs) ∧ R (Itt K a) H1
theorem pi_list {l : Expr} {tl : TE} (hl : PE X l tl) : PI X tg l (iList X.K tl) := by
  intro pins s σ H R I h
  refine thn (hl pins s σ H _ I h) fun v s1 ⟨x, H1, I1, r1, q1⟩ => ?_
  obtain ⟨a, e, ⟨xs, hq⟩, q⟩ := q1
  subst e
  cases r1
  obtain ⟨its, rv, p, hz⟩ := I1.list hq
  refine wpAny_pyIter_list p.isList ?_
  refine ⟨s1.heap.objs.size, [s1.heap.objs.size], _, _, H1, rfl, I1.kept (t' := s1.toks) fun b o e => Heap.get?_push_of_some _ e, turn_list a _, ⟨_, Heap.get?_push_size _ rfl, rfl, rfl⟩, fun b hb => ?_, q⟩
  have e : b = s1.heap.objs.size := by simpa using hb
  subst e
  exact I1.fpOk (Nat.le_refl _) (I1.hok.fresh (Nat.le_refl _))
theorem pi_tup {l : Expr} {tl : TE} (hl : PE X l tl) : PI X tg l (iTup X.K tl) := by
  intro pins s σ H R I h
  refine thn (hl pins s σ H _ I h) fun v s1 ⟨x, H1, I1, r1, q1⟩ => ?_
  obtain ⟨a, e, ⟨xs, hq⟩, q⟩ := q1
  subst e
  cases r1
  obtain ⟨its, rv, p, hz⟩ := I1.tuple hq
  refine wpAny_pyIter_tuple (show s1.heap.IsTuple a its.toArray from p) ?_
  refine ⟨s1.heap.objs.size, [s1.heap.objs.size], _, _, H1, rfl, I1.kept (t' := s1.toks) fun b o e => Heap.get?_push_of_some _ e, turn_tuple a _, ⟨_, Heap.get?_push_size _ rfl, rfl, rfl⟩, fun b hb => ?_, q⟩
  have e : b = s1.heap.objs.size := by simpa using hb
  subst e
  exact I1.fpOk (Nat.le_refl _) (I1.hok.fresh (Nat.le_refl _))
/-- a range object just made, walked -/
theorem range_it {pins : List (Addr × Obj)} {σ : St} {H : Hp} {s : Shared} {R : It → Hp → Prop} {E : Value → Shared → Prop} {lo hi : Int} {t u v : Tok} {tk : Nat} (I : Inv X pins σ H s) (h1 : -(2 ^ 62) ≤ lo) (h2 : lo < 2 ^ 62) (h3 : -(2 ^ 62) ≤ hi) (h4 : hi < 2 ^ 62)
    (q : R (Itr lo (hi - lo).toNat) H) : wpAny (model X.prog X.w) X.A (pyIter (.ref s.heap.objs.size)) (PIE X pins σ tg R) E { s with heap := s.heap.push { cls := .type "range", data := .fields #[.int lo t, .int hi u, .int 1 v] }, toks := tk } := by
  refine wpAny_pyIter_range (IsRange.new ..) (small_one h1 h2 h3 h4) ?_
  have I1 : Inv X pins σ H { s with heap := s.heap.push { cls := .type "range", data := .fields #[.int lo t, .int hi u, .int 1 v] }, toks := tk } := I.kept fun b o e => Heap.get?_push_of_some _ e
  refine ⟨(s.heap.push { cls := .type "range", data := .fields #[.int lo t, .int hi u, .int 1 v] }).objs.size, [(s.heap.push { cls := .type "range", data := .fields #[.int lo t, .int hi u, .int 1 v] }).objs.size], _, _, H, rfl,
    I1.kept (t' := tk) fun b o e => Heap.get?_push_of_some _ e, turn_range _ lo (hi - lo).toNat, ?_, fun b hb => ?_, q⟩
  · have e1 : lo + ((0 : Nat) : Int) * 1 = lo := by simp
    have e2 : (((hi - lo).toNat : Nat) : Int) - ((0 : Nat) : Int) = Builtin.Range.rangeSize lo hi 1 := by rw [rangeSize_one]; split <;> omega
    show IsRangeIter _ _ (lo + ((0 : Nat) : Int) * 1) ((((hi - lo).toNat : Nat) : Int) - ((0 : Nat) : Int)) 1
    rw [e1, e2]
    exact Heap.get?_push_size _ rfl
  · have e : b = (s.heap.push { cls := .type "range", data := .fields #[.int lo t, .int hi u, .int 1 v] }).objs.size := by simpa using hb
    subst e
    exact I1.fpOk (Nat.le_refl _) (I1.hok.fresh (Nat.le_refl _))
def iRng1 (ta : TA) : TI := fun σ H R => ta σ H fun vs H1 => ∃ j : Int, vs = [.int j] ∧ -(2 ^ 62) ≤ j ∧ j < 2 ^ 62 ∧ R (Itr 0 j.toNat) H1
def iRng2 (ta : TA) : TI := fun σ H R => ta σ H fun vs H1 => ∃ i j : Int, vs = [.int i, .int j] ∧ (-(2 ^ 62) ≤ i ∧ i < 2 ^ 62 ∧ -(2 ^ 62) ≤ j ∧ j < 2 ^ 62) ∧ R (Itr i (j - i).toNat) H1
theorem pi_range1 {a : Expr} {ta : TA} {p pos : Pos} (hg : Gl X "range") (hm : X.mg "range" = none) (ha : PA X [a] ta) (hs : starEach [a] X.env = [(false, eval a X.env)] := by rfl) : PI X tg (.Call (.Name "range" p) [a] [] pos) (iRng1 ta) := by
  intro pins s σ H R I h
  refine Call_ (ld_blt I hg hm boot_range (PyProof.Rows.callWith_type1 (thn (ha pos pins s σ H _ I h) fun us s1 ⟨vs, H1, I1, r1, q1⟩ => ?_) hs rfl))
  obtain ⟨j, e, q1, q2, q⟩ := q1
  subst e
  cases r1 with
  | cons r rr =>
    cases rr
    obtain ⟨t, rfl⟩ := r
    exact call_range_1 (range_it I1 (by omega) (by omega) q1 q2 (by simpa using q))
theorem pi_range2 {a b : Expr} {ta : TA} {p pos : Pos} (hg : Gl X "range") (hm : X.mg "range" = none) (ha : PA X [a, b] ta) (hs : starEach [a, b] X.env = [(false, eval a X.env), (false, eval b X.env)] := by rfl) (hs2 : starEach [b] X.env = [(false, eval b X.env)] := by rfl) :
    PI X tg (.Call (.Name "range" p) [a, b] [] pos) (iRng2 ta) := by
  intro pins s σ H R I h
  refine Call_ (ld_blt I hg hm boot_range (PyProof.Rows.callWith_type1 (thn (ha pos pins s σ H _ I h) fun us s1 ⟨vs, H1, I1, r1, q1⟩ => ?_) (by rw [hs, hs2]) (by rw [hs2]; rfl)))
  obtain ⟨i, j, e, ⟨q1, q2, q3, q4⟩, q⟩ := q1
  subst e
  cases r1 with
  | cons r rr =>
    cases rr with
    | cons r' rr =>
      cases rr
      obtain ⟨t, rfl⟩ := r
      obtain ⟨t', rfl⟩ := r'
      exact call_range_2 (range_it I1 q1 q2 q3 q4 q)

/-! ### for -/
/-- W: the invariant by the turn and a measure; N: what the body is to reach -/
def tFor (wi : TI) (g : TG) (tb : TS) : TS := fun D σ H => wi σ H fun J H1 => ∃ W : Nat → Nat → St → Hp → Prop, (∃ m, W 0 m σ H1) ∧ ∀ i m σ H, W i m σ H →
  (J.stop i H ∧ D.nx σ H) ∨ (J.go i H ∧ ∃ N : St → Hp → Prop, (∀ σ' H', N σ' H' → ∃ m', m' < m ∧ W (i + 1) m' σ' H') ∧ ∀ x H', J.yld i H x H' → g x σ H' fun σ2 H2 => tb { D with nx := N, ct := N, bk := D.nx } σ2 H2)
/-- the records at fp as they stand -/
def pinsAt (fp : List Addr) (h : Heap) : List (Addr × Obj) := fp.filterMap fun b => (h.get? b).map fun o => (b, o)
theorem mem_pinsAt {fp : List Addr} {h : Heap} {b : Addr} {o : Obj} (hb : b ∈ fp) (e : h.get? b = some o) : (b, o) ∈ pinsAt fp h := List.mem_filterMap.mpr ⟨b, hb, by rw [e]; rfl⟩
theorem of_pinsAt {fp : List Addr} {h : Heap} {p : Addr × Obj} (hp : p ∈ pinsAt fp h) : p.1 ∈ fp ∧ h.get? p.1 = some p.2 := by
  obtain ⟨b, hb, e⟩ := List.mem_filterMap.mp hp
  cases q : h.get? b with
  | none => rw [q] at e; cases e
  | some o =>
    rw [q] at e
    have e' : (b, o) = p := Option.some.inj e
    subst e'
    exact ⟨hb, q⟩
theorem Inv.pinned {pins : List (Addr × Obj)} {σ : St} {H : Hp} {s : Shared} {fp : List Addr} (I : Inv X pins σ H s) (hf : ∀ b ∈ fp, FpOk X pins H b) (ho : ∀ b ∈ fp, ∃ o, s.heap.get? b = some o ∧ ∀ v, o.data ≠ .cell v) : Inv X (pins ++ pinsAt fp s.heap) σ H s :=
  I.pins_of fun p hp => (List.mem_append.mp hp).elim (fun z => I.pin p (List.mem_append_right _ z)) fun z => by
    obtain ⟨hb, e⟩ := of_pinsAt z
    obtain ⟨f0, f1, f2, _⟩ := hf p.1 hb
    obtain ⟨o, e', d⟩ := ho p.1 hb
    rw [e] at e'; cases e'
    exact ⟨e, f0, f1, f2, d⟩
theorem Inv.unpinned {pins pl : List (Addr × Obj)} {σ : St} {H : Hp} {s : Shared} (I : Inv X (pins ++ pl) σ H s) : Inv X pins σ H s := I.pins_of fun p hp => I.pin p (List.mem_append_right _ (List.mem_append_left _ hp))
theorem ps_for {iter : Expr} {body : List Stmt} {wi : TI} {g : TG} {tb : TS} {pos : Pos} (hp : PassesOwn (model X.prog X.w) X.A X.env X.xe) (hc : X.calm = true) (hi : PI X tg iter wi) (hg : PG X tg g) (hb : PSs X body tb)
    (hs : ∀ x, foldedSetIterable iter X.env x = pure x := by intro _; rfl) : PS X (.For tg iter body [] pos) (tFor wi g tb) := by
  intro pins s σ H D I h
  refine wpAny_For (thn (hi pins s σ H _ I h) fun v s1 h1 => thn h1 fun itv s2 h2 => ?_) hs
  obtain ⟨it, fp, tn, J, H2, e, I2, T, st2, f2, W, ⟨m0, w0⟩, turn⟩ := h2
  subst e
  -- what stays true of the iterator's objects through the loop
  have stat : ∀ {H' : Hp}, (∀ b ∈ fp, H' b = none) → ∀ b ∈ fp, FpOk X pins H' b := fun hn b hb => ⟨hn b hb, (f2 b hb).2⟩
  refine codeAny_forLoop_any (fun n s' => ∃ i σ' H', Inv X pins σ' H' s' ∧ tn i s'.heap ∧ (∀ b ∈ fp, H' b = none) ∧ W i n σ' H') ?_ m0 ⟨0, σ, H2, I2, st2, fun b hb => (f2 b hb).1, w0⟩
  rintro n s3 ⟨i, σ3, H3, I3, st3, fr3, w3⟩
  rcases turn i n σ3 H3 w3 with ⟨stop, qn⟩ | ⟨go, N, hN, step⟩
  · refine wpAny_passesOwn hp (thn (T.done X rfl rfl rfl hc i pins s3 σ3 H3 X.xe I3 (stat fr3) st3 stop) fun r s4 ⟨hr, I4⟩ => ?_)
    subst hr
    exact wpAny_execs_nil ⟨σ3, H3, I4, qn⟩
  · refine wpAny_passesOwn hp (thn (T.item X rfl rfl rfl hc i pins s3 σ3 H3 X.xe I3 (stat fr3) st3 go) fun r s4 ⟨u, hr, h4⟩ => ?_)
    subst hr
    refine wpAny_passesOwn hp (thn h4 fun _ s5 ⟨x, H5, I5, r5, y5, st5, fr5⟩ => ?_)
    have I5' := I5.pinned (stat fr5) (T.obj _ _ st5)
    refine wpAny_passesOwn hp (thn (hg _ s5 σ3 H5 x u _ I5' r5 (step x H5 y5)) fun _ s6 ⟨σ6, H6, I6, q6⟩ => ?_)
    refine wpAny_passesOwn hp (thn (hb _ s6 σ6 H6 _ I6 q6) fun f s7 q7 => ?_)
    have again : ∀ {σ7 : St} {H7 : Hp}, Inv X (pins ++ pinsAt fp s5.heap) σ7 H7 s7 → N σ7 H7 → ∃ m, m < n ∧ ∃ i σ' H', Inv X pins σ' H' s7 ∧ tn i s7.heap ∧ (∀ b ∈ fp, H' b = none) ∧ W i m σ' H' := fun {σ7 H7} I7 n7 => by
      obtain ⟨m', hm, w7⟩ := hN σ7 H7 n7
      refine ⟨m', hm, i + 1, σ7, H7, I7.unpinned, T.keep _ _ _ st5 fun b hb o e => (I7.pin (b, o) (List.mem_append_right _ (List.mem_append_right _ (mem_pinsAt hb e)))).1, fun b hb => ?_, w7⟩
      obtain ⟨o, e, d⟩ := T.obj _ _ st5 b hb
      exact (I7.pin (b, o) (List.mem_append_right _ (List.mem_append_right _ (mem_pinsAt hb e)))).2.1
    cases f with
    | next => obtain ⟨σ7, H7, I7, n7⟩ := q7; exact again I7 n7
    | cont => obtain ⟨σ7, H7, I7, n7⟩ := q7; exact again I7 n7
    | brk => obtain ⟨σ7, H7, I7, q7⟩ := q7; exact ⟨σ7, H7, I7.unpinned, q7⟩
    | ret v => obtain ⟨x7, σ7, H7, I7, r7, q7⟩ := q7; exact ⟨x7, σ7, H7, I7.unpinned, r7, q7⟩
end

/-! ### the forms one uses -/
/-- over a list that the body leaves as it is -/
theorem for_list {K : PySem.W.Frag} {a : Addr} {xs : List V} {g : TG} {tb : TS} {D : Ends} {σ : St} {H : Hp} (Pv : Nat → St → Hp → Prop) (h0 : Pv 0 σ H) (hl : ∀ i σ H, i ≤ xs.length → Pv i σ H → SqL K H a xs)
    (hs : ∀ i x σ H, xs[i]? = some x → Pv i σ H → g x σ H fun σ2 H2 => tb { D with nx := Pv (i + 1), ct := Pv (i + 1), bk := D.nx } σ2 H2) (hd : ∀ σ H, Pv xs.length σ H → D.nx σ H) :
    ∃ W : Nat → Nat → St → Hp → Prop, (∃ m, W 0 m σ H) ∧ ∀ i m σ H, W i m σ H →
      ((Itl K a).stop i H ∧ D.nx σ H) ∨ ((Itl K a).go i H ∧ ∃ N : St → Hp → Prop, (∀ σ' H', N σ' H' → ∃ m', m' < m ∧ W (i + 1) m' σ' H') ∧ ∀ x H', (Itl K a).yld i H x H' → g x σ H' fun σ2 H2 => tb { D with nx := N, ct := N, bk := D.nx } σ2 H2) := by
  refine ⟨fun i m σ H => m = xs.length - i ∧ i ≤ xs.length ∧ Pv i σ H, ⟨xs.length, by simp, Nat.zero_le _, h0⟩, ?_⟩
  rintro i m σ H ⟨rfl, hi, p⟩
  have q := hl i σ H hi p
  by_cases hlt : i < xs.length
  · refine .inr ⟨⟨xs, xs[i], q, by simp [hlt]⟩, Pv (i + 1), fun σ' H' p' => ⟨xs.length - (i + 1), by omega, rfl, hlt, p'⟩, fun x H' y => ?_⟩
    obtain ⟨e, y⟩ := y
    subst e
    exact hs i x σ _ (y xs q) p
  · have e : i = xs.length := by omega
    subst e
    exact .inl ⟨⟨xs, q, Nat.le_refl _⟩, hd σ H p⟩
theorem for_tup {K : PySem.W.Frag} {a : Addr} {xs : List V} {g : TG} {tb : TS} {D : Ends} {σ : St} {H : Hp} (Pv : Nat → St → Hp → Prop) (h0 : Pv 0 σ H) (hl : ∀ i σ H, i ≤ xs.length → Pv i σ H → SqT K H a xs)
    (hs : ∀ i x σ H, xs[i]? = some x → Pv i σ H → g x σ H fun σ2 H2 => tb { D with nx := Pv (i + 1), ct := Pv (i + 1), bk := D.nx } σ2 H2) (hd : ∀ σ H, Pv xs.length σ H → D.nx σ H) :
    ∃ W : Nat → Nat → St → Hp → Prop, (∃ m, W 0 m σ H) ∧ ∀ i m σ H, W i m σ H →
      ((Itt K a).stop i H ∧ D.nx σ H) ∨ ((Itt K a).go i H ∧ ∃ N : St → Hp → Prop, (∀ σ' H', N σ' H' → ∃ m', m' < m ∧ W (i + 1) m' σ' H') ∧ ∀ x H', (Itt K a).yld i H x H' → g x σ H' fun σ2 H2 => tb { D with nx := N, ct := N, bk := D.nx } σ2 H2) := by
  refine ⟨fun i m σ H => m = xs.length - i ∧ i ≤ xs.length ∧ Pv i σ H, ⟨xs.length, by simp, Nat.zero_le _, h0⟩, ?_⟩
  rintro i m σ H ⟨rfl, hi, p⟩
  have q := hl i σ H hi p
  by_cases hlt : i < xs.length
  · refine .inr ⟨⟨xs, xs[i], q, by simp [hlt]⟩, Pv (i + 1), fun σ' H' p' => ⟨xs.length - (i + 1), by omega, rfl, hlt, p'⟩, fun x H' y => ?_⟩
    obtain ⟨e, y⟩ := y
    subst e
    exact hs i x σ _ (y xs q) p
  · have e : i = xs.length := by omega
    subst e
    exact .inl ⟨⟨xs, q, Nat.le_refl _⟩, hd σ H p⟩
theorem for_range {lo : Int} {n : Nat} {g : TG} {tb : TS} {D : Ends} {σ : St} {H : Hp} (Pv : Nat → St → Hp → Prop) (h0 : Pv 0 σ H)
    (hs : ∀ i σ H, i < n → Pv i σ H → g (.int (lo + i)) σ H fun σ2 H2 => tb { D with nx := Pv (i + 1), ct := Pv (i + 1), bk := D.nx } σ2 H2) (hd : ∀ σ H, Pv n σ H → D.nx σ H) :
    ∃ W : Nat → Nat → St → Hp → Prop, (∃ m, W 0 m σ H) ∧ ∀ i m σ H, W i m σ H →
      ((Itr lo n).stop i H ∧ D.nx σ H) ∨ ((Itr lo n).go i H ∧ ∃ N : St → Hp → Prop, (∀ σ' H', N σ' H' → ∃ m', m' < m ∧ W (i + 1) m' σ' H') ∧ ∀ x H', (Itr lo n).yld i H x H' → g x σ H' fun σ2 H2 => tb { D with nx := N, ct := N, bk := D.nx } σ2 H2) := by
  refine ⟨fun i m σ H => m = n - i ∧ i ≤ n ∧ Pv i σ H, ⟨n, by simp, Nat.zero_le _, h0⟩, ?_⟩
  rintro i m σ H ⟨rfl, hi, p⟩
  by_cases hlt : i < n
  · refine .inr ⟨hlt, Pv (i + 1), fun σ' H' p' => ⟨n - (i + 1), by omega, rfl, hlt, p'⟩, fun x H' y => ?_⟩
    obtain ⟨e, y⟩ := y
    subst e y
    exact hs i σ _ hlt p
  · have e : i = n := by omega
    subst e
    exact .inl ⟨Nat.le_refl _, hd σ H p⟩
/-- while, by a word and a measure of the state -/
theorem while_by {c : TT} {tb : TS} {D : Ends} {σ : St} {H : Hp} (Pv : St → Hp → Prop) (μ : St → Hp → Nat) (h0 : Pv σ H)
    (hs : ∀ σ H, Pv σ H → c σ H fun b H1 => if b = true then tb { D with nx := fun σ' H' => Pv σ' H' ∧ μ σ' H' < μ σ H, ct := fun σ' H' => Pv σ' H' ∧ μ σ' H' < μ σ H, bk := D.nx } σ H1 else D.nx σ H1)
    (mono : ∀ σ H Q Q', (∀ b H1, Q b H1 → Q' b H1) → c σ H Q → c σ H Q') : tWhile c tb D σ H := by
  refine ⟨fun m σ H => m = μ σ H ∧ Pv σ H, ⟨_, rfl, h0⟩, ?_⟩
  rintro m σ H ⟨rfl, p⟩
  refine mono σ H _ _ (fun b H1 q => ?_) (hs σ H p)
  cases b with
  | true => exact ⟨_, fun σ' H' ⟨p', l⟩ => ⟨_, l, rfl, p'⟩, q⟩
  | false => exact q
end L2

namespace L2
open PySem PySem.Spec PyProof.Rows

abbrev R2 := V → V → Hp → VK → Prop
/-- a two-place operation on values: f is binaryOp op, inplaceOp op or compareOp op -/
def OpR (X : Cx) (f : Value → Value → Sem Value) (r : R2) : Prop :=
  ∀ (pins : List (Addr × Obj)) (s : Shared) (σ : St) (H : Hp) (x y : V) (v u : Value) (Q : VK), Inv X pins σ H s → RelV x v → RelV y u → r x y H Q →
    wpAny (model X.prog X.w) X.A (f v u) (EP X pins σ Q) X.xe s
/-- a one-place operation -/
def UnR (X : Cx) (f : Value → Sem Value) (r : V → Hp → VK → Prop) : Prop :=
  ∀ (pins : List (Addr × Obj)) (s : Shared) (σ : St) (H : Hp) (x : V) (v : Value) (Q : VK), Inv X pins σ H s → RelV x v → r x H Q →
    wpAny (model X.prog X.w) X.A (f v) (EP X pins σ Q) X.xe s
/-- a call of a value that is known (a builtin, a type) with values -/
def CallR (X : Cx) (f : Value) (r : List V → Hp → VK → Prop) : Prop :=
  ∀ (pins : List (Addr × Obj)) (s : Shared) (σ : St) (H : Hp) (xs : List V) (us : List Value) (Q : VK), Inv X pins σ H s → Vals xs us → r xs H Q →
    wpAny (model X.prog X.w) X.A (call f us) (EP X pins σ Q) X.xe s
/-- a value's truth -/
def TruR (X : Cx) (r : V → Hp → (Bool → Hp → Prop) → Prop) : Prop :=
  ∀ (pins : List (Addr × Obj)) (s : Shared) (σ : St) (H : Hp) (x : V) (v : Value) (Q : Bool → Hp → Prop), Inv X pins σ H s → RelV x v → r x H Q →
    wpAny (model X.prog X.w) X.A (truthy v) (TP X pins σ Q) X.xe s

def tOp (r : R2) (ta tb : TE) : TE := fun σ H Q => ta σ H fun x H1 => tb σ H1 fun y H2 => r x y H2 Q
def tUn (r : V → Hp → VK → Prop) (ta : TE) : TE := fun σ H Q => ta σ H fun x H1 => r x H1 Q
/-- ints in, under C, and a value out -/
def rI (C : Int → Int → Prop) (g : Int → Int → V) : R2 := fun x y H Q => ∃ i j, x = .int i ∧ y = .int j ∧ C i j ∧ Q (g i j) H
def rI0 (g : Int → Int → V) : R2 := fun x y H Q => ∃ i j, x = .int i ∧ y = .int j ∧ Q (g i j) H
def rU (g : Int → V) : V → Hp → VK → Prop := fun x H Q => ∃ i, x = .int i ∧ Q (g i) H

section
variable {X : Cx} {a b c : Expr} {ta tb tc : TE} {pos : Pos}

theorem binT (ha : PE X a ta) (hb : PE X b tb) {pins : List (Addr × Obj)} {s : Shared} {σ : St} {H : Hp} {R : V → V → Hp → Prop} (I : Inv X pins σ H s)
    (h : ta σ H fun x H1 => tb σ H1 fun y H2 => R x y H2) {Q : Value → Shared → Prop} {f : Value → Value → Sem Value}
    (hf : ∀ v u s2 x y H2, Inv X pins σ H2 s2 → RelV x v → RelV y u → R x y H2 → wpAny (model X.prog X.w) X.A (f v u) Q X.xe s2) :
    wpAny (model X.prog X.w) X.A (eval a X.env) (fun v s₁ => wpAny (model X.prog X.w) X.A (eval b X.env) (fun u s₂ => wpAny (model X.prog X.w) X.A (f v u) Q X.xe s₂) X.xe s₁) X.xe s := by
  refine thn (ha pins s σ H _ I h) fun v s1 ⟨x, H1, I1, r1, q1⟩ => ?_
  refine thn (hb pins s1 σ H1 _ I1 q1) fun u s2 ⟨y, H2, I2, r2, q2⟩ => ?_
  exact hf v u s2 x y H2 I2 r1 r2 q2

theorem pe_op {op : Operator} {r : R2} (ho : OpR X (binaryOp op) r) (ha : PE X a ta) (hb : PE X b tb) : PE X (.BinOp a op b pos) (tOp r ta tb) := by
  intro pins s σ H Q I h
  exact wpAny_BinOp (binT ha hb I h fun v u s2 x y H2 I2 rx ry q => ho pins s2 σ H2 x y v u Q I2 rx ry q)
theorem pe_un {op : UnaryOp} {r : V → Hp → VK → Prop} (ho : UnR X (unaryOp op) r) (ha : PE X a ta) : PE X (.UnaryOp op a pos) (tUn r ta) := by
  intro pins s σ H Q I h
  exact UnaryOp_ (thn (ha pins s σ H _ I h) fun v s1 ⟨x, H1, I1, r1, q1⟩ => ho pins s1 σ H1 x v Q I1 r1 q1)
/-- a op= e at a name: the name's slot i -/
theorem augR {op : Operator} {r : R2} (ho : OpR X (inplaceOp op) r) {pins : List (Addr × Obj)} {s : Shared} {σ : St} {H : Hp} {x y : V} {v u : Value} {Q : VK} (I : Inv X pins σ H s)
    (rx : RelV x v) (ry : RelV y u) (q : r x y H Q) : wpAny (model X.prog X.w) X.A (inplaceOp op v u) (EP X pins σ Q) X.xe s := ho pins s σ H x y v u Q I rx ry q

/-! ### ints -/
theorem opI {f : Value → Value → Sem Value} {C : Int → Int → Prop} {g : Int → Int → Int}
    (rule : ∀ (i j : Int) (t u : Tok) (s : Shared) (Q : Value → Shared → Prop) (E : Value → Shared → Prop), C i j → Q (.int (g i j) s.toks) { s with toks := s.toks + 1 } → wpAny (model X.prog X.w) X.A (f (.int i t) (.int j u)) Q E s) :
    OpR X f (rI C fun i j => .int (g i j)) := by
  intro pins s σ H x y v u Q I rx ry h
  obtain ⟨i, j, rfl, rfl, hc, q⟩ := h
  obtain ⟨t, rfl⟩ := rx
  obtain ⟨t', rfl⟩ := ry
  exact rule i j t t' s _ _ hc ⟨.int (g i j), H, I.tok _, ⟨_, rfl⟩, q⟩
theorem opI0 {f : Value → Value → Sem Value} {g : Int → Int → Int}
    (rule : ∀ (i j : Int) (t u : Tok) (s : Shared) (Q : Value → Shared → Prop) (E : Value → Shared → Prop), Q (.int (g i j) s.toks) { s with toks := s.toks + 1 } → wpAny (model X.prog X.w) X.A (f (.int i t) (.int j u)) Q E s) :
    OpR X f (rI0 fun i j => .int (g i j)) := by
  intro pins s σ H x y v u Q I rx ry h
  obtain ⟨i, j, rfl, rfl, q⟩ := h
  obtain ⟨t, rfl⟩ := rx
  obtain ⟨t', rfl⟩ := ry
  exact rule i j t t' s _ _ ⟨.int (g i j), H, I.tok _, ⟨_, rfl⟩, q⟩
theorem opB0 {f : Value → Value → Sem Value} {g : Int → Int → Bool}
    (rule : ∀ (i j : Int) (t u : Tok) (s : Shared) (Q : Value → Shared → Prop) (E : Value → Shared → Prop), Q (.bool (g i j)) s → wpAny (model X.prog X.w) X.A (f (.int i t) (.int j u)) Q E s) :
    OpR X f (rI0 fun i j => .bl (g i j)) := by
  intro pins s σ H x y v u Q I rx ry h
  obtain ⟨i, j, rfl, rfl, q⟩ := h
  obtain ⟨t, rfl⟩ := rx
  obtain ⟨t', rfl⟩ := ry
  exact rule i j t t' s _ _ ⟨.bl (g i j), H, I, rfl, q⟩

def CDiv (i j : Int) : Prop := 0 < j ∧ j < 1073741824
def CDivN (i j : Int) : Prop := j ≠ 0 ∧ j.natAbs < 1073741824
def CPow (i j : Int) : Prop := 0 ≤ j ∧ j ≤ 1000000 ∧ i.natAbs < 2 ^ 64
def CMul (i j : Int) : Prop := (-(2 ^ 64) < i ∧ i < 2 ^ 64) ∨ (-(2 ^ 64) < j ∧ j < 2 ^ 64)
theorem CMul.ok {i j : Int} (h : CMul i j) : IntMulOk i j := by
  rcases h with ⟨h1, h2⟩ | ⟨h1, h2⟩
  · exact .of_left (intBits_le_64 h1 h2)
  · exact .of_right (intBits_le_64 h1 h2)
theorem two_pow_nn (k : Nat) : (0 : Int) ≤ 2 ^ k := by
  rw [two_pow_cast]
  exact Int.natCast_nonneg _

theorem op_add : OpR X (binaryOp .Add) (rI0 fun i j => .int (i + j)) := opI0 fun _ _ _ _ _ _ _ q => add_int q
theorem op_sub : OpR X (binaryOp .Sub) (rI0 fun i j => .int (i - j)) := opI0 fun _ _ _ _ _ _ _ q => sub_int q
theorem op_mul : OpR X (binaryOp .Mult) (rI CMul fun i j => .int (i * j)) := opI fun _ _ _ _ _ _ _ hc q => mul_int q hc.ok
/-- // by a positive divisor -/
theorem op_fdiv : OpR X (binaryOp .FloorDiv) (rI CDiv fun i j => .int (i / j)) := opI fun i j _ _ _ _ _ hc q => by
  have h1 : (0 : Int) < j := hc.1
  have h2 : j < 1073741824 := hc.2
  exact floordiv_int (by omega) (by rw [Int.fdiv_eq_ediv_of_nonneg i (by omega)]; exact q) (.inl (PyProof.noPylong_small (by omega)))
theorem op_fdivN : OpR X (binaryOp .FloorDiv) (rI CDivN fun i j => .int (i.fdiv j)) := opI fun _ _ _ _ _ _ _ hc q => floordiv_int hc.1 q (.inl (PyProof.noPylong_small hc.2))
/-- % by a positive divisor of any size -/
theorem op_mod : OpR X (binaryOp .Mod) (rI (fun _ j => 0 < j) fun i j => .int (i % j)) := opI fun i j _ _ _ _ _ hc q => by
  have h1 : (0 : Int) < j := hc
  exact mod_int' (by omega) (by rw [Int.fmod_eq_emod_of_nonneg i (by omega)]; exact q)
theorem op_modN : OpR X (binaryOp .Mod) (rI (fun _ j => j ≠ 0) fun i j => .int (i.fmod j)) := opI fun _ _ _ _ _ _ _ hc q => mod_int' hc q
theorem op_pow : OpR X (binaryOp .Pow) (rI CPow fun i j => .int (i ^ j.toNat)) := opI fun _ _ _ _ _ _ _ hc q => pow_int_small hc.1 hc.2.1 hc.2.2 q
theorem op_shl : OpR X (binaryOp .LShift) (rI CPow fun i j => .int (i * 2 ^ j.toNat)) := opI fun _ _ _ _ _ _ _ hc q => lshift_int_small hc.1 hc.2.1 hc.2.2 q
theorem op_shr : OpR X (binaryOp .RShift) (rI (fun _ j => 0 ≤ j) fun i j => .int (i / 2 ^ j.toNat)) := opI fun i j _ _ _ _ _ hc q =>
  rshift_int hc (by rw [Int.fdiv_eq_ediv_of_nonneg i (two_pow_nn _)]; exact q)
theorem op_and : OpR X (binaryOp .BitAnd) (rI0 fun i j => .int (Builtin.bitAnd i j)) := opI0 fun _ _ _ _ _ _ _ q => and_int q
theorem op_or : OpR X (binaryOp .BitOr) (rI0 fun i j => .int (Builtin.bitOr i j)) := opI0 fun _ _ _ _ _ _ _ q => or_int q
theorem op_xor : OpR X (binaryOp .BitXor) (rI0 fun i j => .int (Builtin.bitXor i j)) := opI0 fun _ _ _ _ _ _ _ q => xor_int q

theorem iop_add : OpR X (inplaceOp .Add) (rI0 fun i j => .int (i + j)) := opI0 fun _ _ _ _ _ _ _ q => iadd_int q
theorem iop_sub : OpR X (inplaceOp .Sub) (rI0 fun i j => .int (i - j)) := opI0 fun _ _ _ _ _ _ _ q => isub_int q
theorem iop_mul : OpR X (inplaceOp .Mult) (rI CMul fun i j => .int (i * j)) := opI fun _ _ _ _ _ _ _ hc q => imul_int q hc.ok
theorem iop_fdiv : OpR X (inplaceOp .FloorDiv) (rI CDiv fun i j => .int (i / j)) := opI fun i j _ _ _ _ _ hc q => by
  have h1 : (0 : Int) < j := hc.1
  have h2 : j < 1073741824 := hc.2
  exact ifloordiv_int (by omega) (by rw [Int.fdiv_eq_ediv_of_nonneg i (by omega)]; exact q) (.inl (PyProof.noPylong_small (by omega)))
theorem iop_mod : OpR X (inplaceOp .Mod) (rI (fun _ j => 0 < j) fun i j => .int (i % j)) := opI fun i j _ _ _ _ _ hc q => by
  have h1 : (0 : Int) < j := hc
  exact imod_int (by omega) (by rw [Int.fmod_eq_emod_of_nonneg i (by omega)]; exact q)
theorem iop_shl : OpR X (inplaceOp .LShift) (rI CPow fun i j => .int (i * 2 ^ j.toNat)) := opI fun _ _ _ _ _ _ _ hc q => ilshift_int_small hc.1 hc.2.1 hc.2.2 q
theorem iop_shr : OpR X (inplaceOp .RShift) (rI (fun _ j => 0 ≤ j) fun i j => .int (i / 2 ^ j.toNat)) := opI fun i j _ _ _ _ _ hc q =>
  irshift_int hc (by rw [Int.fdiv_eq_ediv_of_nonneg i (two_pow_nn _)]; exact q)
theorem iop_and : OpR X (inplaceOp .BitAnd) (rI0 fun i j => .int (Builtin.bitAnd i j)) := opI0 fun _ _ _ _ _ _ _ q => iand_int q
theorem iop_or : OpR X (inplaceOp .BitOr) (rI0 fun i j => .int (Builtin.bitOr i j)) := opI0 fun _ _ _ _ _ _ _ q => ior_int q
theorem iop_xor : OpR X (inplaceOp .BitXor) (rI0 fun i j => .int (Builtin.bitXor i j)) := opI0 fun _ _ _ _ _ _ _ q => ixor_int q

theorem unI {f : Value → Sem Value} {g : Int → Int}
    (rule : ∀ (i : Int) (t : Tok) (s : Shared) (Q : Value → Shared → Prop) (E : Value → Shared → Prop), Q (.int (g i) s.toks) { s with toks := s.toks + 1 } → wpAny (model X.prog X.w) X.A (f (.int i t)) Q E s) :
    UnR X f (rU fun i => .int (g i)) := by
  intro pins s σ H x v Q I rx h
  obtain ⟨i, rfl, q⟩ := h
  obtain ⟨t, rfl⟩ := rx
  exact rule i t s _ _ ⟨.int (g i), H, I.tok _, ⟨_, rfl⟩, q⟩
theorem un_neg : UnR X (unaryOp .USub) (rU fun i => .int (-i)) := unI fun _ _ _ _ _ q => neg_int q
theorem un_inv : UnR X (unaryOp .Invert) (rU fun i => .int (Builtin.bitNot i)) := unI fun _ _ _ _ _ q => invert_int q

/-! ### bools among ints: n += (a < b) -/
theorem op_add_ib : OpR X (binaryOp .Add) (fun x y H Q => ∃ i k, x = .int i ∧ y = .bl k ∧ Q (.int (i + b2i k)) H) := by
  intro pins s σ H x y v u Q I rx ry h
  obtain ⟨i, k, rfl, rfl, q⟩ := h
  obtain ⟨t, rfl⟩ := rx
  cases ry
  exact add_int_bool ⟨.int (i + b2i k), H, I.tok _, ⟨_, rfl⟩, q⟩
end

/-! ### comparisons -/
/-- the scalars that == tells apart as data does -/
def scal : V → V → Bool
  | .non, .non => true | .non, .int _ => true | .int _, .non => true | .non, .bl _ => true | .bl _, .non => true | .non, .str _ => true | .str _, .non => true
  | .int _, .int _ => true | .bl _, .bl _ => true | .str _, .str _ => true | .byt _, .byt _ => true
  | .int _, .str _ => true | .str _, .int _ => true | .bl _, .str _ => true | .str _, .bl _ => true
  | _, _ => false
def rEq : R2 := fun x y H Q => scal x y = true ∧ Q (.bl (decide (x = y))) H
def rNe : R2 := fun x y H Q => scal x y = true ∧ Q (.bl (!decide (x = y))) H

theorem dec_int {i j : Int} : decide (V.int i = V.int j) = (i == j) := by
  rw [Bool.eq_iff_iff]
  simp
theorem dec_bl {i j : Bool} : decide (V.bl i = V.bl j) = (i == j) := by
  rw [Bool.eq_iff_iff]
  simp
theorem dec_str {i j : Str} : decide (V.str i = V.str j) = (i == j) := by
  rw [Bool.eq_iff_iff]
  simp
theorem dec_byt {i j : Array UInt8} : decide (V.byt i = V.byt j) = (i.toList == j.toList) := by
  rw [Bool.eq_iff_iff]
  cases i
  cases j
  simp

section
variable {X : Cx} {a b c : Expr} {ta tb tc : TE} {pos : Pos}
theorem fin_bl {pins : List (Addr × Obj)} {σ : St} {H : Hp} {s : Shared} {Q : VK} {k k' : Bool} (I : Inv X pins σ H s) (q : Q (.bl k) H) (e : k = k') : EP X pins σ Q (.bool k') s := by
  subst e
  exact ⟨.bl k, H, I, rfl, q⟩
theorem op_eq : OpR X (compareOp .Eq) rEq := by
  intro pins s σ H x y v u Q I rx ry h
  obtain ⟨hs, q⟩ := h
  cases x with
  | non =>
    cases rx
    cases y with
    | non => cases ry; exact PySem.EqNone.eq_none_none (fin_bl I q (by simp))
    | bl j => cases ry; exact PySem.EqNone.eq_none_bool (fin_bl I q (by simp))
    | int j => obtain ⟨t', rfl⟩ := ry; exact PySem.EqNone.eq_none_int (fin_bl I q (by simp))
    | str j => obtain ⟨t', rfl⟩ := ry; exact PySem.EqNone.eq_none_str (fin_bl I q (by simp))
    | _ => exact absurd (show false = true from hs) Bool.false_ne_true
  | bl i =>
    cases rx
    cases y with
    | non => cases ry; exact PySem.EqNone.eq_bool_none (fin_bl I q (by simp))
    | bl j => cases ry; exact eq_bool (fin_bl I q dec_bl)
    | str j => obtain ⟨t', rfl⟩ := ry; exact PySem.EqMixed.eq_bool_str (fin_bl I q (by simp))
    | _ => exact absurd (show false = true from hs) Bool.false_ne_true
  | int i =>
    obtain ⟨t, rfl⟩ := rx
    cases y with
    | non => cases ry; exact PySem.EqNone.eq_int_none (fin_bl I q (by simp))
    | int j => obtain ⟨t', rfl⟩ := ry; exact eq_int (fin_bl I q dec_int)
    | str j => obtain ⟨t', rfl⟩ := ry; exact PySem.EqMixed.eq_int_str (fin_bl I q (by simp))
    | _ => exact absurd (show false = true from hs) Bool.false_ne_true
  | str i =>
    obtain ⟨t, rfl⟩ := rx
    cases y with
    | non => cases ry; exact PySem.EqNone.eq_str_none (fin_bl I q (by simp))
    | bl j => cases ry; exact PySem.EqMixed.eq_str_bool (fin_bl I q (by simp))
    | int j => obtain ⟨t', rfl⟩ := ry; exact PySem.EqMixed.eq_str_int (fin_bl I q (by simp))
    | str j => obtain ⟨t', rfl⟩ := ry; exact eq_str (fin_bl I q dec_str)
    | _ => exact absurd (show false = true from hs) Bool.false_ne_true
  | byt i =>
    obtain ⟨t, rfl⟩ := rx
    cases y with
    | byt j => obtain ⟨t', rfl⟩ := ry; exact PySem.W.eq_bytes (fin_bl I q dec_byt)
    | _ => exact absurd (show false = true from hs) Bool.false_ne_true
  | _ => cases y <;> exact absurd (show false = true from hs) Bool.false_ne_true
theorem op_ne : OpR X (compareOp .NotEq) rNe := by
  intro pins s σ H x y v u Q I rx ry h
  obtain ⟨hs, q⟩ := h
  cases x with
  | non =>
    cases rx
    cases y with
    | non => cases ry; exact PySem.EqNone.ne_none_none (fin_bl I q (by simp))
    | bl j => cases ry; exact PySem.EqNone.ne_none_bool (fin_bl I q (by simp))
    | int j => obtain ⟨t', rfl⟩ := ry; exact PySem.EqNone.ne_none_int (fin_bl I q (by simp))
    | str j => obtain ⟨t', rfl⟩ := ry; exact PySem.EqNone.ne_none_str (fin_bl I q (by simp))
    | _ => exact absurd (show false = true from hs) Bool.false_ne_true
  | bl i =>
    cases rx
    cases y with
    | non => cases ry; exact PySem.EqNone.ne_bool_none (fin_bl I q (by simp))
    | bl j => cases ry; exact ne_bool (fin_bl I q (congrArg not dec_bl))
    | str j => obtain ⟨t', rfl⟩ := ry; exact PySem.EqMixed.ne_bool_str (fin_bl I q (by simp))
    | _ => exact absurd (show false = true from hs) Bool.false_ne_true
  | int i =>
    obtain ⟨t, rfl⟩ := rx
    cases y with
    | non => cases ry; exact PySem.EqNone.ne_int_none (fin_bl I q (by simp))
    | int j => obtain ⟨t', rfl⟩ := ry; exact ne_int (fin_bl I q (congrArg not dec_int))
    | str j => obtain ⟨t', rfl⟩ := ry; exact PySem.EqMixed.ne_int_str (fin_bl I q (by simp))
    | _ => exact absurd (show false = true from hs) Bool.false_ne_true
  | str i =>
    obtain ⟨t, rfl⟩ := rx
    cases y with
    | non => cases ry; exact PySem.EqNone.ne_str_none (fin_bl I q (by simp))
    | bl j => cases ry; exact PySem.EqMixed.ne_str_bool (fin_bl I q (by simp))
    | int j => obtain ⟨t', rfl⟩ := ry; exact PySem.EqMixed.ne_str_int (fin_bl I q (by simp))
    | str j => obtain ⟨t', rfl⟩ := ry; exact ne_str (fin_bl I q (congrArg not dec_str))
    | _ => exact absurd (show false = true from hs) Bool.false_ne_true
  | byt i =>
    obtain ⟨t, rfl⟩ := rx
    cases y with
    | byt j => obtain ⟨t', rfl⟩ := ry; exact PySem.W.ne_bytes (fin_bl I q (congrArg not dec_byt))
    | _ => exact absurd (show false = true from hs) Bool.false_ne_true
  | _ => cases y <;> exact absurd (show false = true from hs) Bool.false_ne_true

theorem op_lt : OpR X (compareOp .Lt) (rI0 fun i j => .bl (decide (i < j))) := opB0 fun _ _ _ _ _ _ _ q => lt_int q
theorem op_le : OpR X (compareOp .LtE) (rI0 fun i j => .bl (decide (i ≤ j))) := opB0 fun _ _ _ _ _ _ _ q => le_int q
theorem op_gt : OpR X (compareOp .Gt) (rI0 fun i j => .bl (decide (j < i))) := opB0 fun _ _ _ _ _ _ _ q => gt_int q
theorem op_ge : OpR X (compareOp .GtE) (rI0 fun i j => .bl (decide (j ≤ i))) := opB0 fun _ _ _ _ _ _ _ q => ge_int q
theorem op_lt_str : OpR X (compareOp .Lt) (fun x y H Q => ∃ i j, x = .str i ∧ y = .str j ∧ Q (.bl (decide (i.cps.toList < j.cps.toList))) H) := by
  intro pins s σ H x y v u Q I rx ry h
  obtain ⟨i, j, rfl, rfl, q⟩ := h
  obtain ⟨t, rfl⟩ := rx
  obtain ⟨t', rfl⟩ := ry
  exact lt_str (fin_bl I q rfl)
/-- the one string within the other -/
theorem op_in_str : OpR X (compareOp .In) (fun x y H Q => ∃ i j, x = .str i ∧ y = .str j ∧ Q (.bl (!(Builtin.Str.occurrences j i 0 j.length 1).isEmpty)) H) := by
  intro pins s σ H x y v u Q I rx ry h
  obtain ⟨i, j, rfl, rfl, q⟩ := h
  obtain ⟨t, rfl⟩ := rx
  obtain ⟨t', rfl⟩ := ry
  exact in_str (fin_bl I q rfl)

/-- is None, is not None: the right side a value none -/
theorem op_isN : OpR X (compareOp .Is) (fun x y H Q => y = .non ∧ Q (.bl (decide (x = .non))) H) := by
  intro pins s σ H x y v u Q I rx ry h
  obtain ⟨rfl, q⟩ := h
  cases ry
  refine is_none_gen (fin_bl I q ?_)
  cases x <;> first
    | (cases rx; rfl)
    | (obtain ⟨t, rfl⟩ := rx; rfl)
theorem op_notN : OpR X (compareOp .IsNot) (fun x y H Q => y = .non ∧ Q (.bl (!decide (x = .non))) H) := by
  intro pins s σ H x y v u Q I rx ry h
  obtain ⟨rfl, q⟩ := h
  cases ry
  refine isnot_none_gen (fin_bl I q ?_)
  cases x <;> first
    | (cases rx; rfl)
    | (obtain ⟨t, rfl⟩ := rx; rfl)

theorem op_notin_str : OpR X (compareOp .NotIn) (fun x y H Q => ∃ i j, x = .str i ∧ y = .str j ∧ Q (.bl (!(!(Builtin.Str.occurrences j i 0 j.length 1).isEmpty))) H) := by
  intro pins s σ H x y v u Q I rx ry h
  obtain ⟨i, j, rfl, rfl, q⟩ := h
  obtain ⟨t, rfl⟩ := rx
  obtain ⟨t', rfl⟩ := ry
  exact notIn_str (fin_bl I q rfl)
/-- is, is not of two objects that are tracked lists or instances -/
def isObj : HO → Bool
  | .lst _ => true
  | .ins _ _ _ => true
  | _ => false
theorem obj_there {pins : List (Addr × Obj)} {s : Shared} {σ : St} {H : Hp} {a : Addr} {o : HO} (I : Inv X pins σ H s) (h : H a = some o) (p : isObj o = true) : ∃ ob, s.heap.get? a = some ob ∧ ob.cls ≠ .type "tuple" := by
  cases o with
  | lst xs =>
    obtain ⟨_, its, n, _, e⟩ : xs.length ≤ sizeLine ∧ ∃ (its : List Value) (n : Nat), Vals xs its ∧ s.heap.get? a = some { cls := .type "list", data := .seq its.toArray n } := I.hok a _ h
    exact ⟨_, e, (by show Value.type "list" ≠ .type "tuple"; decide +kernel)⟩
  | ins C dx fs =>
    have x := I.hok a _ h
    obtain ⟨_, _, _, e, _⟩ := x
    exact ⟨_, e, (by show Value.ref C ≠ .type "tuple"; exact fun z => by cases z)⟩
  | _ => exact absurd (show false = true from p) Bool.false_ne_true
theorem op_is_ref : OpR X (compareOp .Is) (fun x y H Q => ∃ a b oa ob, x = .ref a ∧ y = .ref b ∧ H a = some oa ∧ isObj oa = true ∧ H b = some ob ∧ isObj ob = true ∧ Q (.bl (decide (a = b))) H) := by
  intro pins s σ H x y v u Q I rx ry h
  obtain ⟨a, b, oa, ob, rfl, rfl, ha, pa, hb, pb, q⟩ := h
  cases rx
  cases ry
  obtain ⟨o1, e1, n1⟩ := obj_there I ha pa
  obtain ⟨o2, e2, _⟩ := obj_there I hb pb
  by_cases z : a = b
  · subst z
    exact wpAny_is_ref_self (fin_bl I q (by simp))
  · exact wpAny_is_ref_other z e1 e2 n1 (fin_bl I q (by simp [z]))
theorem op_isnot_ref : OpR X (compareOp .IsNot) (fun x y H Q => ∃ a b oa ob, x = .ref a ∧ y = .ref b ∧ H a = some oa ∧ isObj oa = true ∧ H b = some ob ∧ isObj ob = true ∧ Q (.bl (!decide (a = b))) H) := by
  intro pins s σ H x y v u Q I rx ry h
  obtain ⟨a, b, oa, ob, rfl, rfl, ha, pa, hb, pb, q⟩ := h
  cases rx
  cases ry
  obtain ⟨o1, e1, n1⟩ := obj_there I ha pa
  obtain ⟨o2, e2, _⟩ := obj_there I hb pb
  by_cases z : a = b
  · subst z
    exact wpAny_isNot_ref_self (fin_bl I q (by simp))
  · exact wpAny_isNot_ref_other z e1 e2 n1 (fin_bl I q (by simp [z]))

/-- two rules for one operation: by cases -/
theorem OpR.or {f : Value → Value → Sem Value} {r r' : R2} (h : OpR X f r) (h' : OpR X f r') : OpR X f (fun x y H Q => r x y H Q ∨ r' x y H Q) := by
  intro pins s σ H x y v u Q I rx ry q
  rcases q with q | q
  · exact h pins s σ H x y v u Q I rx ry q
  · exact h' pins s σ H x y v u Q I rx ry q

theorem nomark (b : Expr) {op : CmpOp} (h : op ≠ .In := by decide) (h2 : op ≠ .NotIn := by decide) : behindInMarks op b = false := by
  have e1 : (op == CmpOp.In) = false := by cases op <;> first | rfl | exact absurd rfl h
  have e2 : (op == CmpOp.NotIn) = false := by cases op <;> first | rfl | exact absurd rfl h2
  cases b <;> simp [behindInMarks, e1, e2]
/-- a comparison as a value; hm: nomark b, or (for in, not in) by with_unfolding_all rfl -/
theorem pe_cmpR {op : CmpOp} {r : R2} (ho : OpR X (compareOp op) r) (ha : PE X a ta) (hb : PE X b tb) (hm : behindInMarks op b = false) : PE X (.Compare a [op] [b] pos) (tOp r ta tb) := by
  intro pins s σ H Q I h
  exact wpAny_Compare1 (binT ha hb I h fun v u s2 x y H2 I2 rx ry q => ho pins s2 σ H2 x y v u Q I2 rx ry q) hm
/-- a reading of a value as a test -/
def tTest (t : TE) : TT := fun σ H Q => t σ H fun x H' => ∃ k, x = .bl k ∧ Q k H'
theorem pt_cmpR {op : CmpOp} {r : R2} (ho : OpR X (compareOp op) r) (ha : PE X a ta) (hb : PE X b tb) (hm : behindInMarks op b = false) : PT X (.Compare a [op] [b] pos) (tTest (tOp r ta tb)) := by
  intro pins s σ H Q I h
  refine wpAny_isTrue_Compare1 (thn (ha pins s σ H _ I h) fun v s1 ⟨x, H1, I1, r1, q1⟩ => thn (hb pins s1 σ H1 _ I1 q1) fun u s2 ⟨y, H2, I2, r2, q2⟩ =>
    thn (ho pins s2 σ H2 x y v u _ I2 r1 r2 q2) fun c s3 ⟨z, H3, I3, r3, k, e, q3⟩ => ?_) hm
  subst e
  cases r3
  exact wpAny_truthy_bool ⟨H3, I3, q3⟩
/-- a op1 b op2 c -/
def tChain (r r' : R2) (ta tb tc : TE) : TE := fun σ H Q => ta σ H fun x H1 => tb σ H1 fun y H2 => r x y H2 fun z H3 => ∃ k, z = .bl k ∧
  (if k = true then tc σ H3 fun w' H4 => r' y w' H4 Q else Q (.bl false) H3)
theorem pe_chain {op op' : CmpOp} {r r' : R2} (ho : OpR X (compareOp op) r) (ho' : OpR X (compareOp op') r') (ha : PE X a ta) (hb : PE X b tb) (hc : PE X c tc)
    (hm : lastMarks [op, op'] [b, c] = false := by with_unfolding_all rfl) : PE X (.Compare a [op, op'] [b, c] pos) (tChain r r' ta tb tc) := by
  intro pins s σ H Q I h
  refine Compare_chain (thn (ha pins s σ H _ I h) fun v s1 ⟨x, H1, I1, r1, q1⟩ => chain_link (thn (hb pins s1 σ H1 _ I1 q1) fun u s2 ⟨y, H2, I2, r2, q2⟩ =>
    thn (ho pins s2 σ H2 x y v u _ I2 r1 r2 q2) fun d s3 ⟨z, H3, I3, r3, k, e, q3⟩ => ?_)) hm
  subst e
  cases r3
  refine wpAny_truthy_bool ?_
  cases k with
  | false => exact ite_ff ⟨.bl false, H3, I3, rfl, q3⟩
  | true => exact ite_tt (chain_last (thn (hc pins s3 σ H3 _ I3 q3) fun w' s4 ⟨z', H4, I4, r4, q4⟩ => ho' pins s4 σ H4 y z' u w' Q I4 r2 r4 q4))
theorem pt_chain {op op' : CmpOp} {r r' : R2} (ho : OpR X (compareOp op) r) (ho' : OpR X (compareOp op') r') (ha : PE X a ta) (hb : PE X b tb) (hc : PE X c tc)
    (hm : lastMarks [op, op'] [b, c] = false := by with_unfolding_all rfl) : PT X (.Compare a [op, op'] [b, c] pos) (tTest (tChain r r' ta tb tc)) := by
  intro pins s σ H Q I h
  refine isTrue_chain (thn (ha pins s σ H _ I h) fun v s1 ⟨x, H1, I1, r1, q1⟩ => test_link (thn (hb pins s1 σ H1 _ I1 q1) fun u s2 ⟨y, H2, I2, r2, q2⟩ =>
    thn (ho pins s2 σ H2 x y v u _ I2 r1 r2 q2) fun d s3 ⟨z, H3, I3, r3, k, e, q3⟩ => ?_)) hm
  subst e
  cases r3
  refine wpAny_truthy_bool ?_
  cases k with
  | false =>
    obtain ⟨k', e', q'⟩ := q3
    cases e'
    exact ite_ff ⟨H3, I3, q'⟩
  | true =>
    refine ite_tt (test_last (thn (hc pins s3 σ H3 _ I3 q3) fun w' s4 ⟨z', H4, I4, r4, q4⟩ => thn (ho' pins s4 σ H4 y z' u w' _ I4 r2 r4 q4) fun d' s5 ⟨z2, H5, I5, r5, k2, e2, q5⟩ => ?_))
    subst e2
    cases r5
    exact wpAny_truthy_bool ⟨H5, I5, q5⟩

/-! ### truth -/
/-- a value's truth by the abstract heap -/
def TruV (K : PySem.W.Frag) (x : V) (H : Hp) (k : Bool) : Prop :=
  match x with
  | .non => k = false
  | .bl b => k = b
  | .int i => k = (i != 0)
  | .str y => y.length ≤ sizeLine ∧ k = ((y.length : Int) != 0)
  | .byt y => y.size ≤ sizeLine ∧ k = ((y.size : Int) != 0)
  | .ref p => (∃ xs, SqL K H p xs ∧ k = !xs.isEmpty) ∨ (∃ xs, SqT K H p xs ∧ k = !xs.isEmpty) ∨ ∃ kvs, H p = some (.dK kvs) ∧ k = !kvs.isEmpty
  | _ => False
theorem isEmpty_kv {κ : Type} {kvs : List (κ × V)} {vs : List (κ × Value)} (r : KV kvs vs) : (!vs.isEmpty) = !kvs.isEmpty := by
  cases r <;> rfl
theorem isEmpty_of {xs : List V} {its : List Value} (r : Vals xs its) : (!its.toArray.isEmpty) = !xs.isEmpty := by
  cases r <;> simp
theorem line63 : (sizeLine : Nat) < 2 ^ 63 := by rw [sizeLine_eq]; decide
theorem tru_ok : TruR X (fun x H Q => ∃ k, TruV X.K x H k ∧ Q k H) := by
  intro pins s σ H x v Q I rx h
  obtain ⟨k, e, q⟩ := h
  have hl := line63
  have hs : sizeLine = 16777216 := sizeLine_eq
  cases x with
  | non =>
    cases rx
    have e' : k = false := e
    subst e'
    exact truthy_none ⟨H, I, q⟩
  | bl b =>
    cases rx
    have e' : k = b := e
    subst e'
    exact wpAny_truthy_bool ⟨H, I, q⟩
  | int i =>
    obtain ⟨t, rfl⟩ := rx
    have e' : k = (i != 0) := e
    subst e'
    exact PySem.P.truthy_int ⟨H, I, q⟩
  | str y =>
    obtain ⟨t, rfl⟩ := rx
    obtain ⟨hy, e'⟩ : y.length ≤ sizeLine ∧ k = ((y.length : Int) != 0) := e
    subst e'
    exact PySem.P.truthy_str (by omega) ⟨H, I.tok _, q⟩
  | byt y =>
    obtain ⟨t, rfl⟩ := rx
    obtain ⟨hy, e'⟩ : y.size ≤ sizeLine ∧ k = ((y.size : Int) != 0) := e
    subst e'
    exact PySem.W.truthy_bytes (by omega) ⟨H, I.tok _, q⟩
  | ref p =>
    cases rx
    have e' : (∃ xs, SqL X.K H p xs ∧ k = !xs.isEmpty) ∨ (∃ xs, SqT X.K H p xs ∧ k = !xs.isEmpty) ∨ ∃ kvs, H p = some (.dK kvs) ∧ k = !kvs.isEmpty := e
    rcases e' with ⟨xs, hx, e'⟩ | ⟨xs, hx, e'⟩ | ⟨kvs, hx, e'⟩
    · subst e'
      obtain ⟨its, r, pl, hz⟩ := I.list hx
      have hlen := r.length
      exact wpAny_truthy_list pl.isList (by simp only [List.size_toArray]; omega) ⟨H, I.tok _, by rw [isEmpty_of r]; exact q⟩
    · subst e'
      obtain ⟨its, r, pl, hz⟩ := I.tuple hx
      have hlen := r.length
      exact truthy_tuple pl (by simp only [List.size_toArray]; omega) ⟨H, I.tok _, by rw [isEmpty_of r]; exact q⟩
    · subst e'
      obtain ⟨hz, hS, vs, r, m⟩ : kvs.length ≤ sizeLine ∧ (p == sysModules) = false ∧ ∃ vs, KV kvs vs ∧ s.heap.DictOf (mixKind X.prog X.w) p vs := I.hok p _ hx
      have hlen : kvs.length = vs.length := Paired.length r
      exact wpAny_truthy_dict hS m (by omega) ⟨H, I.tok _, by rw [isEmpty_kv r]; exact q⟩
  | _ => exact (show False from e).elim
/-- any expression whose test is its value's truth (a name, a call, a subscript, a field ..: he by fun _ => rfl) -/
theorem pt_truth (ha : PE X a ta) (he : ∀ whole, isTrue a X.env whole = (do let v ← whole; standAt a.pos; holding [v] (truthy v))) :
    PT X a (fun σ H Q => ta σ H fun x H' => ∃ k, TruV X.K x H' k ∧ Q k H') := by
  intro pins s σ H Q I h
  exact isTrue_plain (thn (ha pins s σ H _ I h) fun v s1 ⟨x, H1, I1, r1, q1⟩ => tru_ok pins s1 σ H1 x v Q I1 r1 q1) (he _)

/-! ### strs and bytes -/
theorem pe_byt {x : List UInt8} {k : Nat} : PE X (.Constant (.bytes x) k pos) (fun _ H Q => Q (.byt x.toArray) H) := fun _ _ _ H _ I h => PySem.W.Constant_bytes ⟨.byt x.toArray, H, I.tok _, ⟨_, rfl⟩, h⟩
theorem op_add_str : OpR X (binaryOp .Add) (fun x y H Q => ∃ i j, x = .str i ∧ y = .str j ∧ i.length + j.length ≤ sizeLine ∧ Q (.str (i ++ j)) H) := by
  intro pins s σ H x y v u Q I rx ry h
  obtain ⟨i, j, rfl, rfl, hz, q⟩ := h
  obtain ⟨t, rfl⟩ := rx
  obtain ⟨t', rfl⟩ := ry
  exact add_str (fun t' tk => ⟨.str (i ++ j), H, I.tok _, ⟨_, rfl⟩, q⟩) hz
theorem iop_add_str : OpR X (inplaceOp .Add) (fun x y H Q => ∃ i j, x = .str i ∧ y = .str j ∧ i.length + j.length ≤ sizeLine ∧ Q (.str (i ++ j)) H) := by
  intro pins s σ H x y v u Q I rx ry h
  obtain ⟨i, j, rfl, rfl, hz, q⟩ := h
  obtain ⟨t, rfl⟩ := rx
  obtain ⟨t', rfl⟩ := ry
  exact iadd_str (fun t' tk => ⟨.str (i ++ j), H, I.tok _, ⟨_, rfl⟩, q⟩) hz
theorem op_add_byt : OpR X (binaryOp .Add) (fun x y H Q => ∃ i j, x = .byt i ∧ y = .byt j ∧ i.size + j.size ≤ 16777216 ∧ Q (.byt (i ++ j)) H) := by
  intro pins s σ H x y v u Q I rx ry h
  obtain ⟨i, j, rfl, rfl, hz, q⟩ := h
  obtain ⟨t, rfl⟩ := rx
  obtain ⟨t', rfl⟩ := ry
  exact PySem.W.KBy.add_bytes hz (fun t' tk => ⟨.byt (i ++ j), H, I.tok _, ⟨_, rfl⟩, q⟩)

def PlainIxT (b : Expr) : Prop := ∀ o i, subscripted b false o i = operate [o, i] (getItem o i)
/-- s[i], 0 ≤ i < len -/
theorem pe_item_str (ha : PE X a ta) (hb : PE X b tb) (hs : PlainIxT b) :
    PE X (.Subscript a b pos) (tOp (fun x y H Q => ∃ z i c, x = .str z ∧ y = .int i ∧ 0 ≤ i ∧ i < 2 ^ 63 ∧ i < z.length ∧ z.cps[i.toNat]? = some c ∧ Q (.str ⟨#[c]⟩) H) ta tb) := by
  intro pins s σ H Q I h
  refine Subscript_ (binT ha hb I h fun v u s2 x y H2 I2 rx ry q => ?_)
  obtain ⟨z, i, c, rfl, rfl, h0, h63, h1, hc, q⟩ := q
  obtain ⟨t, rfl⟩ := rx
  obtain ⟨t', rfl⟩ := ry
  have e : seqIndex? i z.length = some i.toNat := PySem.StrLaws.seqIndex_nonneg h0 h1
  exact tail_any (typeIs_str s2 z t) slot_str_getitem.lookup (getItem_str (c := c) (by
    have e1 : decide (i < -(2 ^ 63 : Int)) = false := decide_eq_false (by omega)
    have e2 : decide (i ≥ 2 ^ 63) = false := decide_eq_false (by omega)
    rw [e1, e2] <;> rfl) (by rw [e]; exact hc) ⟨.str ⟨#[c]⟩, H2, I2.tok _, ⟨_, rfl⟩, q⟩) (hs _ _)
/-- b[i], 0 ≤ i < len -/
theorem pe_item_byt (ha : PE X a ta) (hb : PE X b tb) (hs : PlainIxT b) :
    PE X (.Subscript a b pos) (tOp (fun x y H Q => ∃ (z : List UInt8) (i : Int), x = .byt z.toArray ∧ y = .int i ∧ z.length ≤ sizeLine ∧ 0 ≤ i ∧ i < z.length ∧ Q (.int ((z.getD i.toNat 0).toNat : Nat)) H) ta tb) := by
  intro pins s σ H Q I h
  refine Subscript_ (binT ha hb I h fun v u s2 x y H2 I2 rx ry q => ?_)
  obtain ⟨z, i, rfl, rfl, hz, h0, h1, q⟩ := q
  obtain ⟨t, rfl⟩ := rx
  obtain ⟨t', rfl⟩ := ry
  have hl : sizeLine = 16777216 := sizeLine_eq
  exact tail_any (PySem.W.typeIs_bytes s2 z.toArray t) PySem.W.FB.slot_bytes_getitem.lookup (PySem.W.getItem_bytes (by omega) h0 h1 ⟨.int ((z.getD i.toNat 0).toNat : Nat), H2, I2.tok _, ⟨_, rfl⟩, q⟩) (hs _ _)

/-! ### scalar builtins, by CallR -/
theorem vals1 {x : V} {us : List Value} (r : Vals [x] us) : ∃ u, us = [u] ∧ RelV x u := by
  cases r with
  | cons r1 r2 => cases r2; exact ⟨_, rfl, r1⟩
theorem vals2 {x y : V} {us : List Value} (r : Vals [x, y] us) : ∃ u w', us = [u, w'] ∧ RelV x u ∧ RelV y w' := by
  cases r with
  | cons r1 r2 =>
    cases r2 with
    | cons r3 r4 => cases r4; exact ⟨_, _, rfl, r1, r3⟩
theorem call_abs : CallR X (.builtin "abs") (fun xs H Q => ∃ i, xs = [.int i] ∧ Q (.int (if i < 0 then -i else i)) H) := by
  intro pins s σ H xs us Q I r h
  obtain ⟨i, rfl, q⟩ := h
  obtain ⟨u, rfl, t, rfl⟩ := vals1 r
  exact call_abs_int fun u tk => ⟨.int (if i < 0 then -i else i), H, I.tok _, ⟨_, rfl⟩, q⟩
theorem call_max2 (hc : X.calm = true) : CallR X (.builtin "max") (fun xs H Q => ∃ i j, xs = [.int i, .int j] ∧ Q (.int (if j > i then j else i)) H) := by
  intro pins s σ H xs us Q I r h
  obtain ⟨i, j, rfl, q⟩ := h
  obtain ⟨u, w', rfl, ⟨t, rfl⟩, ⟨t', rfl⟩⟩ := vals2 r
  refine max_two_ints (I.ok.hd hc) fun h' tk k => ⟨_, H, I.kept k, ?_, q⟩
  by_cases hj : j > i
  · rw [if_pos hj, if_pos hj]; exact ⟨_, rfl⟩
  · rw [if_neg hj, if_neg hj]; exact ⟨_, rfl⟩
theorem call_min2 (hc : X.calm = true) : CallR X (.builtin "min") (fun xs H Q => ∃ i j, xs = [.int i, .int j] ∧ Q (.int (if j < i then j else i)) H) := by
  intro pins s σ H xs us Q I r h
  obtain ⟨i, j, rfl, q⟩ := h
  obtain ⟨u, w', rfl, ⟨t, rfl⟩, ⟨t', rfl⟩⟩ := vals2 r
  refine min_two_ints (I.ok.hd hc) fun h' tk k => ⟨_, H, I.kept k, ?_, q⟩
  by_cases hj : j < i
  · rw [if_pos hj, if_pos hj]; exact ⟨_, rfl⟩
  · rw [if_neg hj, if_neg hj]; exact ⟨_, rfl⟩
theorem call_int1 : CallR X (.type "int") (fun xs H Q => (∃ i, xs = [.int i] ∧ Q (.int i) H) ∨ ∃ k, xs = [.bl k] ∧ Q (.int (if k then 1 else 0)) H) := by
  intro pins s σ H xs us Q I r h
  rcases h with ⟨i, rfl, q⟩ | ⟨k, rfl, q⟩
  · obtain ⟨u, rfl, t, rfl⟩ := vals1 r
    exact call_int_int ⟨.int i, H, I, ⟨_, rfl⟩, q⟩
  · obtain ⟨u, rfl, r1⟩ := vals1 r
    cases r1
    exact call_int_bool ⟨.int (if k then 1 else 0), H, I.tok _, ⟨_, rfl⟩, q⟩
theorem call_bool1 : CallR X (.type "bool") (fun xs H Q => (∃ i, xs = [.int i] ∧ Q (.bl (i != 0)) H) ∨ ∃ k, xs = [.bl k] ∧ Q (.bl k) H) := by
  intro pins s σ H xs us Q I r h
  rcases h with ⟨i, rfl, q⟩ | ⟨k, rfl, q⟩
  · obtain ⟨u, rfl, t, rfl⟩ := vals1 r
    exact call_bool_int ⟨.bl (i != 0), H, I, rfl, q⟩
  · obtain ⟨u, rfl, r1⟩ := vals1 r
    cases r1
    exact call_bool_bool ⟨.bl k, H, I, rfl, q⟩
theorem call_str_int : CallR X (.type "str") (fun xs H Q => ∃ i, xs = [.int i] ∧ i.natAbs.log2 < 1920 ∧ Q (.str (toString i)) H) := by
  intro pins s σ H xs us Q I r h
  obtain ⟨i, rfl, hz, q⟩ := h
  obtain ⟨u, rfl, t, rfl⟩ := vals1 r
  exact PySem.P.str_of_int hz ⟨.str _, H, I.tok _, ⟨_, rfl⟩, q⟩
theorem call_ord : CallR X (.builtin "ord") (fun xs H Q => ∃ x, xs = [.str x] ∧ x.length = 1 ∧ Q (.int (x.cps.getD 0 0 : Nat)) H) := by
  intro pins s σ H xs us Q I r h
  obtain ⟨x, rfl, hz, q⟩ := h
  obtain ⟨u, rfl, t, rfl⟩ := vals1 r
  exact ord_of_one hz ⟨.int _, H, I.tok _, ⟨_, rfl⟩, q⟩
theorem call_chr : CallR X (.builtin "chr") (fun xs H Q => ∃ i, xs = [.int i] ∧ 0 ≤ i ∧ i ≤ 1114111 ∧ Q (.str ⟨#[i.toNat]⟩) H) := by
  intro pins s σ H xs us Q I r h
  obtain ⟨i, rfl, h0, h1, q⟩ := h
  obtain ⟨u, rfl, t, rfl⟩ := vals1 r
  exact chr_of_range h0 h1 ⟨.str _, H, I.tok _, ⟨_, rfl⟩, q⟩
/-- len of a str, a bytes, a list, a tuple -/
def LenV (K : PySem.W.Frag) (x : V) (H : Hp) (n : Nat) : Prop :=
  match x with
  | .str y => y.length ≤ sizeLine ∧ n = y.length
  | .byt y => y.size ≤ sizeLine ∧ n = y.size
  | .ref p => (∃ xs, SqL K H p xs ∧ n = xs.length) ∨ ∃ xs, SqT K H p xs ∧ n = xs.length
  | _ => False
theorem call_len : CallR X (.builtin "len") (fun xs H Q => ∃ x n, xs = [x] ∧ LenV X.K x H n ∧ Q (.int n) H) := by
  intro pins s σ H xs us Q I r h
  obtain ⟨x, n, rfl, e, q⟩ := h
  obtain ⟨u, rfl, rx⟩ := vals1 r
  have hl := line63
  have hs : sizeLine = 16777216 := sizeLine_eq
  cases x with
  | str y =>
    obtain ⟨t, rfl⟩ := rx
    obtain ⟨hy, e'⟩ : y.length ≤ sizeLine ∧ n = y.length := e
    subst e'
    exact len_str (by omega) ⟨.int _, H, I.tok _, ⟨_, rfl⟩, q⟩
  | byt y =>
    obtain ⟨t, rfl⟩ := rx
    obtain ⟨hy, e'⟩ : y.size ≤ sizeLine ∧ n = y.size := e
    subst e'
    exact PySem.W.len_bytes (by omega) ⟨.int _, H, I.tok _, ⟨_, rfl⟩, q⟩
  | ref p =>
    cases rx
    have e' : (∃ xs, SqL X.K H p xs ∧ n = xs.length) ∨ ∃ xs, SqT X.K H p xs ∧ n = xs.length := e
    rcases e' with ⟨xs, hx, e'⟩ | ⟨xs, hx, e'⟩
    · subst e'
      obtain ⟨its, r', pl, hz⟩ := I.list hx
      have hlen := r'.length
      exact Calls.call_len_list pl.isList (by simp only [List.size_toArray]; omega) ⟨.int xs.length, H, I.tok _, ⟨_, by simp only [List.size_toArray]; rw [hlen]⟩, q⟩
    · subst e'
      obtain ⟨its, r', pl, hz⟩ := I.tuple hx
      have hlen := r'.length
      exact len_tuple pl (by simp only [List.size_toArray]; omega) ⟨.int xs.length, H, I.tok _, ⟨_, by simp only [List.size_toArray]; rw [hlen]⟩, q⟩
  | _ => exact (show False from e).elim
/-- divmod: a new tuple -/
theorem call_divmod : CallR X (.builtin "divmod") (fun xs H Q => ∃ i j, xs = [.int i, .int j] ∧ CDiv i j ∧ ∀ p, H p = none → Q (.ref p) (upd H p (.tup [.int (i / j), .int (i % j)]))) := by
  intro pins s σ H xs us Q I r h
  obtain ⟨i, j, rfl, ⟨h1, h2⟩, q⟩ := h
  obtain ⟨u, w', rfl, ⟨t, rfl⟩, ⟨t', rfl⟩⟩ := vals2 r
  refine divmod_int (by omega) ?_ (.inl (PyProof.noPylong_small (by omega)))
  rw [Int.fdiv_eq_ediv_of_nonneg i (by omega), Int.fmod_eq_emod_of_nonneg i (by omega)]
  have hn : H s.heap.objs.size = none := I.hok.fresh (Nat.le_refl _)
  refine ⟨.ref s.heap.objs.size, _, ?_, rfl, q _ hn⟩
  refine I.laid (fun b o e => Heap.get?_push_of_some _ e) (Nat.le_refl _) ⟨by simp only [List.length_cons, List.length_nil]; rw [sizeLine_eq]; decide, [.int (i / j) s.toks, .int (i % j) (s.toks + 1)], .cons ⟨_, rfl⟩ (.cons ⟨_, rfl⟩ .nil), ?_⟩
  exact ⟨_, Heap.get?_push_size s.heap rfl, rfl, 0, rfl⟩
end
end L2

namespace L2
open PySem PySem.Spec PyProof.Rows

/-! ### an instance, its attributes a map -/
structure ObjM (h : Heap) (x dx C : Addr) (mA : Str → Option Value) : Prop where
  obj : h.get? x = some (PySem.W.instObj C dx)
  ns : h.Ns1 dx mA
  ne : dx ≠ x

theorem lookIn_ns {h : Heap} {dx : Addr} {mA : Str → Option Value} (n : h.Ns1 dx mA) : ∃ od, h.get? dx = some od ∧ ∀ name, PySem.W.lookIn name od = some (mA name) := by
  obtain ⟨o, es, ep, ho, hd, hk, _, hm⟩ := n
  refine ⟨o, ho, fun name => ?_⟩
  have e := hm name
  unfold nsFind findBy at e
  rw [← Array.find?_toList] at e
  unfold PySem.W.lookIn
  rw [hd]
  dsimp only
  split
  · rename_i y q
    rw [q] at e
    exact congrArg some e
  · rename_i q
    rw [q] at e
    have a : es.toList.any (·.refKey) = false := by
      rw [List.any_eq_false]
      intro y hy
      obtain ⟨z, t, hkey⟩ := hk y (Array.mem_toList_iff.mp hy)
      simp [DictEntry.refKey, hkey]
    have a' : ¬ es.toList.any (·.refKey) = true := by rw [a]; exact Bool.false_ne_true
    rw [if_neg a']
    exact congrArg some e

theorem ObjM.look {h : Heap} {x dx C : Addr} {mA : Str → Option Value} (I : ObjM h x dx C mA) : ∃ od, PySem.W.InstAt h x (PySem.W.instObj C dx) C (some od) ∧ ∀ name, PySem.W.lookIn name od = some (mA name) :=
  let ⟨od, ho, hl⟩ := lookIn_ns I.ns
  ⟨od, ⟨I.obj, rfl, rfl, ho⟩, hl⟩

section
variable {prog : Program} {w : World} {A : Around} {E : Value → Shared → Prop} {s : Shared} {K : PySem.W.Frag} {x dx C f : Addr} {mA : Str → Option Value} {name : Str} {v : Value}

theorem get_map {expr : Bool} {Q : Value → Shared → Prop} (X : K.In s.heap) (I : ObjM s.heap x dx C mA) (hg : PySem.W.plainGet K C name = true) (hh : PySem.W.hasDictIn K C = true)
    (ha : PySem.W.findIn K (.ref C) name = some none) (hv : mA name = some v) (hv' : PySem.W.handedIn v = true) (h : Q v { s with toks := s.toks + 1 }) :
    wpAny (model prog w) A (getAttr (.ref x) name expr) Q E s := by
  obtain ⟨od, J, hl⟩ := I.look
  exact PySem.W.get_value X J (PySem.W.plainGet_of hg).1 (PySem.W.findObj_own hh ha rfl (by rw [hl, hv])) hv' h

theorem get_const {expr : Bool} {a : Value} {Q : Value → Shared → Prop} (X : K.In s.heap) (I : ObjM s.heap x dx C mA) (hg : PySem.W.plainGet K C name = true) (hh : PySem.W.hasDictIn K C = true)
    (ha : PySem.W.findIn K (.ref C) name = some (some a)) (hn : PySem.W.specialIn K a "__get__" = some none) (hc : PySem.W.copiedNames.contains name = false) (hv : mA name = none) (hv' : PySem.W.handedIn a = true)
    (h : Q a { s with toks := s.toks + 1 }) : wpAny (model prog w) A (getAttr (.ref x) name expr) Q E s := by
  obtain ⟨od, J, hl⟩ := I.look
  exact PySem.W.get_value X J (PySem.W.plainGet_of hg).1 (PySem.W.findObj_cls hh ha hn hv' hc (by rw [hl, hv])) hv' h

theorem get_meth {pl : Sem Bool} {Q : Value × List Value → Shared → Prop} (X : K.In s.heap) (I : ObjM s.heap x dx C mA) (hg : PySem.W.plainGet K C name = true)
    (hf : PySem.W.findIn K (.ref C) name = some (some (.ref f))) (ht : PySem.W.isFn K (.ref f) = true) (hv : mA name = none) (h : Q (.ref f, [.ref x]) s) :
    wpAny (model prog w) A (getMethod (.ref x) name pl) Q E s := by
  obtain ⟨od, J, hl⟩ := I.look
  exact PySem.W.method_fn X J (PySem.W.plainGet_of hg).1 (PySem.W.plainGet_of hg).2 hf (beq_iff_eq.mp ht) (by show (PySem.W.lookIn name od).map (·.isSome) = some false; rw [hl, hv]; rfl) h

theorem set_map {ns : List Str} {Q : Unit → Shared → Prop} (X : K.In s.heap) (I : ObjM s.heap x dx C mA)
    (hs : PySem.W.findIn K (.ref C) "__setattr__" = some (some (.builtin "object.__setattr__"))) (hp : PySem.W.plainOver K C = true) (ht : PySem.W.takerIn K C name = some none) (hh : PySem.W.hasDictIn K C = true)
    (hw : PySem.Within mA ns) (hsz : ns.length ≤ sizeLine)
    (h : ∀ h', ObjM h' x dx C (fun y => if y = name then some v else mA y) → Heap.SameBut dx s.heap h' → Q () { s with heap := h', toks := s.toks + 2 }) :
    wpAny (model prog w) A (setAttr (.ref x) name v) Q E s := by
  obtain ⟨od, J, hl⟩ := I.look
  refine PySem.W.set_plain X J hs (PySem.W.osa_open (s := { s with toks := s.toks + 1 }) (r := none) X J hp ht fun b => ?_)
  obtain ⟨cd, hc, hd'⟩ := PySem.W.any_some hh
  have hx : s.heap.get? x = some ⟨.ref C, some dx, .plain, #[]⟩ := I.obj
  refine wpAny_bind (wpAny_pure (wpAny_bind (wpAny_bind (wpAny_loadPart hx (wpAny_bind (PySem.W.Looks.here (s := { s with toks := s.toks + 1 }) (PySem.W.looks_clsIn X hc) ?_))))))
  rw [hd']
  refine wpAny_pure (a := some dx) (wpAny_bind (wpAny_pure (wpAny_bind ?_)))
  refine wpAny_nsSet1 (s := { s with toks := s.toks + 1 }) I.ns fun h' hn2 hs2 => ?_
  obtain ⟨oD, esD, epD, hoD, hdD, hcD⟩ := hn2.count (PySem.Within.cons name v hw)
  refine wpAny_bind (wpAny_lookBehind hoD (by rw [hdD]; exact pastItsLine_dict (Nat.le_trans hcD (by rw [List.length_cons]; omega))) ?_)
  exact wpAny_pure (h _ ⟨(hs2.2 _ (Ne.symm I.ne)).trans I.obj, hn2, I.ne⟩ hs2)

/-- C(..): the dict at the heap's end, the instance behind it; then its __init__ -/
theorem make_map {R : Result → Shared → Prop} {vs : List Value} {kw : List (Str × Value)} (X : K.In s.heap) (hm : PySem.W.makesIn K C = true)
    (hi : PySem.W.findIn K (.ref C) "__init__" = some (some (.ref f))) (hf : PySem.W.typeIn K (.ref f) = some (.type "function"))
    (h : codeAny (model prog w) (A.under (.builtin "type.__call__" ⟨.ref C :: vs, kw⟩)) (.call (.ref f) ⟨.ref (s.heap.objs.size + 1) :: vs, kw⟩) (PySem.W.InitBack (s.heap.objs.size + 1) R)
      { s with heap := (s.heap.push PySem.W.emptyDict).push (PySem.W.instObj C s.heap.objs.size) }) :
    codeAny (model prog w) A (.call (.ref C) ⟨vs, kw⟩) R s := by
  obtain ⟨hh, g, d, t, os⟩ := s
  exact PySem.W.make_core (PySem.W.makes_of X hm) (PySem.W.looks_findIn X hi) (fun self => PySem.W.bind_fn X self hf) (.inl rfl) h
/-- C() where there is no __init__ but object's -/
theorem make_map0 {R : Result → Shared → Prop} (X : K.In s.heap) (hm : PySem.W.makesIn K C = true)
    (hi : PySem.W.findIn K (.ref C) "__init__" = some (some (.builtin "object.__init__")))
    (hb : ∀ self, PySem.W.Looks (model prog w) s.heap (bindSpecial (.builtin "object.__init__") self) (.builtin "object.__init__", [self]))
    (h : codeAny (model prog w) (A.under (.builtin "type.__call__" ⟨[.ref C], []⟩)) (.call (.builtin "object.__init__") ⟨[.ref (s.heap.objs.size + 1)], []⟩) (PySem.W.InitBack (s.heap.objs.size + 1) R)
      { s with heap := (s.heap.push PySem.W.emptyDict).push (PySem.W.instObj C s.heap.objs.size) }) :
    codeAny (model prog w) A (.call (.ref C) ⟨[], []⟩) R s := by
  obtain ⟨hh, g, d, t, os⟩ := s
  exact PySem.W.make_core (PySem.W.makes_of X hm) (PySem.W.looks_findIn X hi) hb (.inr ⟨rfl, rfl⟩) h
end

/-! ### the attributes as a list of pairs -/
def putF (f : Str) (v : V) : List (Str × V) → List (Str × V)
  | [] => [(f, v)]
  | (g, x) :: r => if g = f then (g, v) :: r else (g, x) :: putF f v r
theorem lookup_putF (f g : Str) (v : V) : ∀ fs : List (Str × V), (putF f v fs).lookup g = if g = f then some v else fs.lookup g
  | [] => by
    show List.lookup g [(f, v)] = _
    by_cases h : g = f
    · have hb : (g == f) = true := beq_iff_eq.mpr h
      simp only [List.lookup, hb, if_pos h]
    · have hb : (g == f) = false := beq_eq_false_iff_ne.mpr h
      simp only [List.lookup, hb, if_neg h]
  | (k, x) :: r => by
    have ih := lookup_putF f g v r
    rw [show putF f v ((k, x) :: r) = (if k = f then (k, v) :: r else (k, x) :: putF f v r) from rfl]
    by_cases hk : k = f
    · rw [if_pos hk]
      by_cases h : g = k
      · have hb : (g == k) = true := beq_iff_eq.mpr h
        simp only [List.lookup, hb, if_pos (h.trans hk)]
      · have hb : (g == k) = false := beq_eq_false_iff_ne.mpr h
        simp only [List.lookup, hb, if_neg (fun e : g = f => h (e.trans hk.symm))]
    · rw [if_neg hk]
      by_cases h : g = k
      · have hb : (g == k) = true := beq_iff_eq.mpr h
        simp only [List.lookup, hb, if_neg (fun e : g = f => hk (h.symm.trans e))]
      · have hb : (g == k) = false := beq_eq_false_iff_ne.mpr h
        simp only [List.lookup, hb]
        exact ih
theorem keys_putF (f : Str) (v : V) : ∀ fs : List (Str × V), f ∈ (putF f v fs).map (·.1) ∧ ∀ g, g ∈ fs.map (·.1) → g ∈ (putF f v fs).map (·.1)
  | [] => ⟨by simp [putF], fun g h => by simp at h⟩
  | (k, x) :: r => by
    obtain ⟨i1, i2⟩ := keys_putF f v r
    rw [show putF f v ((k, x) :: r) = (if k = f then (k, v) :: r else (k, x) :: putF f v r) from rfl]
    by_cases hk : k = f
    · rw [if_pos hk]
      subst hk
      exact ⟨by simp, fun g h => by simpa using h⟩
    · rw [if_neg hk]
      refine ⟨?_, fun g h => ?_⟩
      · rw [List.map_cons]
        exact List.mem_cons_of_mem _ i1
      · rw [List.map_cons] at h ⊢
        rcases List.mem_cons.mp h with e | e
        · exact List.mem_cons.mpr (.inl e)
        · exact List.mem_cons_of_mem _ (i2 g e)
theorem length_putF (f : Str) (v : V) : ∀ fs : List (Str × V), (putF f v fs).length ≤ fs.length + 1
  | [] => by simp [putF]
  | (k, x) :: r => by
    have ih := length_putF f v r
    rw [show putF f v ((k, x) :: r) = (if k = f then (k, v) :: r else (k, x) :: putF f v r) from rfl]
    by_cases hk : k = f
    · rw [if_pos hk, List.length_cons, List.length_cons]; omega
    · rw [if_neg hk, List.length_cons, List.length_cons]; omega

theorem RelO.some_of {v : V} {o : Option Value} (r : RelO (some v) o) : ∃ u, o = some u ∧ RelV v u := by
  cases o with
  | none => exact (show False from r).elim
  | some u => exact ⟨u, rfl, r⟩
theorem RelO.none_of {o : Option Value} (r : RelO none o) : o = none := by
  cases o with
  | none => rfl
  | some u => exact (show False from r).elim
theorem handed_of {v : V} {u : Value} (r : RelV v u) : PySem.W.handedIn u = true := by
  cases v with
  | non => cases (show u = Value.none from r); rfl
  | bl b => cases (show u = Value.bool b from r); rfl
  | int i => obtain ⟨t, e⟩ := (show ∃ t, u = Value.int i t from r); cases e; rfl
  | str x => obtain ⟨t, e⟩ := (show ∃ t, u = Value.str x t from r); cases e; rfl
  | byt b => obtain ⟨t, e⟩ := (show ∃ t, u = Value.bytes b t from r); cases e; rfl
  | flt b => obtain ⟨t, e⟩ := (show ∃ t, u = Value.float b t from r); cases e; rfl
  | ref a => cases (show u = Value.ref a from r); rfl
  | ty n => cases (show u = Value.type n from r); rfl

section
variable {P : Program} {w : World} {H H' : Hp} {h h' : Heap} {a C dx : Addr} {fs fs' : List (Str × V)}
theorem ins_get (hok : HOk P w H h) (e : H a = some (.ins C dx fs)) : ∃ mA, ObjM h a dx C mA ∧ (∀ f, RelO (fs.lookup f) (mA f)) ∧ PySem.Within mA (fs.map (·.1)) ∧ fs.length ≤ 1000 ∧ H dx = some (.own a) := by
  obtain ⟨d, z, ne, ob, mA, n, r, q⟩ := (show ObjOk P w H h a (.ins C dx fs) from hok a _ e)
  exact ⟨mA, ⟨ob, n, ne⟩, r, q, z, d⟩
end

/-! ### what of the text a class must have -/
structure Cls (K : PySem.W.Frag) (C : Addr) : Prop where
  pg : PySem.W.plainGet K C Str.empty = true
  hd : PySem.W.hasDictIn K C = true
  po : PySem.W.plainOver K C = true
  sa : PySem.W.findIn K (.ref C) "__setattr__" = some (some (.builtin "object.__setattr__"))
theorem Cls.get {K : PySem.W.Frag} {C : Addr} (c : Cls K C) (f : Str) : PySem.W.plainGet K C f = true := c.pg
/-- no class of it has the name -/
def NoAttr (K : PySem.W.Frag) (C : Addr) (f : Str) : Prop := PySem.W.findIn K (.ref C) f = some none
theorem NoAttr.taker {K : PySem.W.Frag} {C : Addr} {f : Str} (n : NoAttr K C f) : PySem.W.takerIn K C f = some none := by
  unfold PySem.W.takerIn
  rw [show PySem.W.findIn K (.ref C) f = some none from n]
  rfl
/-- a constant of the class -/
structure Con (K : PySem.W.Frag) (C : Addr) (f : Str) (v : V) (u : Value) : Prop where
  at_ : PySem.W.findIn K (.ref C) f = some (some u)
  rel : RelV v u
  get : PySem.W.specialIn K u "__get__" = some none
  cp : PySem.W.copiedNames.contains f = false
/-- a method: a plain def of the class or of one above it -/
structure Meth (K : PySem.W.Frag) (C : Addr) (m : Str) (f : Addr) : Prop where
  at_ : PySem.W.findIn K (.ref C) m = some (some (.ref f))
  fn : PySem.W.isFn K (.ref f) = true
  kp : PySem.W.keepIn K (.ref f) = true

section
variable {X : Cx} {pins : List (Addr × Obj)} {σ : St} {H : Hp} {s : Shared} {a C dx : Addr} {fs : List (Str × V)} {f : Str} {v : V} {A : Around} {E : Value → Shared → Prop}

theorem getattr_ok {b : Bool} {Q : Value → Shared → Prop} (I : Inv X pins σ H s) (e : H a = some (.ins C dx fs)) (c : Cls X.K C) (n : NoAttr X.K C f) (l : fs.lookup f = some v)
    (h : ∀ u s', Inv X pins σ H s' → RelV v u → Q u s') : wpAny (model X.prog X.w) A (getAttr (.ref a) f b) Q E s := by
  obtain ⟨mA, O, r, _, _, _⟩ := ins_get I.hok e
  obtain ⟨u, hu, ru⟩ := RelO.some_of (v := v) (o := mA f) (by rw [← l]; exact r f)
  exact get_map I.kIn O (c.get f) c.hd n hu (handed_of ru) (h u _ (I.tok _) ru)

theorem getcon_ok {b : Bool} {u : Value} {Q : Value → Shared → Prop} (I : Inv X pins σ H s) (e : H a = some (.ins C dx fs)) (c : Cls X.K C) (k : Con X.K C f v u) (l : fs.lookup f = none)
    (h : ∀ s', Inv X pins σ H s' → Q u s') : wpAny (model X.prog X.w) A (getAttr (.ref a) f b) Q E s := by
  obtain ⟨mA, O, r, _, _, _⟩ := ins_get I.hok e
  have hn : mA f = none := RelO.none_of (by rw [← l]; exact r f)
  exact get_const I.kIn O (c.get f) c.hd k.at_ k.get k.cp hn (handed_of k.rel) (h _ (I.tok _))

theorem getmeth_ok {m : Str} {g : Addr} {pl : Sem Bool} {Q : Value × List Value → Shared → Prop} (I : Inv X pins σ H s) (e : H a = some (.ins C dx fs)) (c : Cls X.K C) (k : Meth X.K C m g) (l : fs.lookup m = none)
    (h : Q (.ref g, [.ref a]) s) : wpAny (model X.prog X.w) A (getMethod (.ref a) m pl) Q E s := by
  obtain ⟨mA, O, r, _, _, _⟩ := ins_get I.hok e
  have hn : mA m = none := RelO.none_of (by rw [← l]; exact r m)
  exact get_meth I.kIn O (c.get m) k.at_ k.fn hn h

theorem setattr_ok {y : V} {u : Value} {Q : Unit → Shared → Prop} (I : Inv X pins σ H s) (e : H a = some (.ins C dx fs)) (c : Cls X.K C) (n : NoAttr X.K C f) (hl : fs.length < 1000) (ry : RelV y u)
    (h : ∀ s', Inv X pins σ (upd H a (.ins C dx (putF f y fs))) s' → Q () s') : wpAny (model X.prog X.w) A (setAttr (.ref a) f u) Q E s := by
  obtain ⟨mA, O, r, wi, _, ho⟩ := ins_get I.hok e
  have hz : (fs.map (·.1)).length ≤ sizeLine := by rw [List.length_map, sizeLine_eq]; omega
  refine set_map I.kIn O c.sa c.po n.taker c.hd wi hz fun h' O' sb => h _ ?_
  have hd : ∃ o, h'.get? dx = some o := let ⟨o, _, _, e', _⟩ := O'.ns; ⟨o, e'⟩
  refine I.write (x := a) (e := dx) (by rw [e]; exact True.intro) (.inr ho) (fun b q hb z => (sb.2 b hb).trans z) hd ?_
  refine ⟨by rw [upd_ne O.ne]; exact ho, ?_, O.ne, O'.obj, _, O'.ns, fun g => ?_, fun g hg => ?_⟩
  · have := length_putF f y fs; omega
  · show RelO ((putF f y fs).lookup g) (if g = f then some u else mA g)
    rw [lookup_putF]
    by_cases q : g = f
    · rw [if_pos q, if_pos q]; exact ry
    · rw [if_neg q, if_neg q]; exact r g
  · by_cases q : g = f
    · rw [q]; exact (keys_putF f y fs).1
    · refine (keys_putF f y fs).2 g (wi g fun z => hg ?_)
      show (if g = f then some u else mA g) = none
      rw [if_neg q]; exact z

/-- a new instance, tracked, without attributes -/
theorem Inv.made (I : Inv X pins σ H s) : Inv X pins σ (upd (upd H s.heap.objs.size (.own (s.heap.objs.size + 1))) (s.heap.objs.size + 1) (.ins C s.heap.objs.size []))
    { s with heap := (s.heap.push PySem.W.emptyDict).push (PySem.W.instObj C s.heap.objs.size) } := by
  have e1 : (s.heap.push PySem.W.emptyDict).get? s.heap.objs.size = some PySem.W.emptyDict := Heap.get?_push_size s.heap rfl
  have e2 : ((s.heap.push PySem.W.emptyDict).push (PySem.W.instObj C s.heap.objs.size)).get? (s.heap.objs.size + 1) = some (PySem.W.instObj C s.heap.objs.size) := by
    have := Heap.get?_push_size (s.heap.push PySem.W.emptyDict) (o := PySem.W.instObj C s.heap.objs.size) rfl
    rwa [Heap.size_push] at this
  have e3 : (s.heap.push PySem.W.emptyDict).Ns s.heap.objs.size (fun _ => none) := ⟨PySem.W.emptyDict, #[], _, e1, rfl, (fun e he => absurd he (by simp)), fun _ => rfl⟩
  have I1 := I.laid (a := s.heap.objs.size) (o := .own (s.heap.objs.size + 1)) (h' := s.heap.push PySem.W.emptyDict) (t' := s.toks) (fun b u q => Heap.get?_push_of_some _ q) (Nat.le_refl _) ⟨_, e1⟩
  refine I1.laid (a := s.heap.objs.size + 1) (o := .ins C s.heap.objs.size []) (t' := s.toks) (fun b u q => Heap.get?_push_of_some _ q) (Nat.le_of_eq (Heap.size_push _ _)) ?_
  have ne : s.heap.objs.size ≠ s.heap.objs.size + 1 := Nat.ne_of_lt (Nat.lt_succ_self _)
  refine ⟨by rw [upd_ne ne, upd_same], Nat.zero_le _, ne, e2, fun _ => none, (Heap.Ns1.of_empty e3).at fun o q => Heap.get?_push_of_some _ q, fun _ => True.intro, fun y hy => absurd rfl hy⟩

/-- e.f where nothing but the object is asked: through attributeBase (super) and the last hold -/
theorem attr_of {prog : Program} {w : World} {env : Env} {e : Expr} {f : Str} {pos : Pos} {s : Shared} {Q : Value → Shared → Prop} (hb : attributeBase e f env (eval e env) = eval e env)
    (h : wpAny (model prog w) A (eval e env) (fun o s₁ => wpAny (model prog w) A (getAttr o f true) Q E s₁) E s) : wpAny (model prog w) A (eval (.Attribute e f pos) env) Q E s :=
  Attribute_any_ h (by rw [arm_eval_Attribute, hb])
end

/-! ### readings and rules -/
/-- e.f, an attribute of the instance -/
def tFld (K : PySem.W.Frag) (ta : TE) (f : Str) : TE := fun σ H Q => ta σ H fun x H1 => ∃ a C dx fs v, x = .ref a ∧ H1 a = some (.ins C dx fs) ∧ Cls K C ∧ NoAttr K C f ∧ fs.lookup f = some v ∧ Q v H1
/-- e.f, a constant of the class -/
def tCon (K : PySem.W.Frag) (ta : TE) (f : Str) : TE := fun σ H Q => ta σ H fun x H1 => ∃ a C dx fs v u, x = .ref a ∧ H1 a = some (.ins C dx fs) ∧ Cls K C ∧ Con K C f v u ∧ fs.lookup f = none ∧ Q v H1
/-- e.f = value -/
def sFld (K : PySem.W.Frag) (ta tv : TE) (f : Str) : TS := fun D σ H => tv σ H fun y H1 => ta σ H1 fun x H2 => ∃ a C dx fs, x = .ref a ∧ H2 a = some (.ins C dx fs) ∧ Cls K C ∧ NoAttr K C f ∧ fs.length < 1000 ∧
  D.nx σ (upd H2 a (.ins C dx (putF f y fs)))
/-- an augmented operator on two values -/
def InOp (X : Cx) (op : Operator) (rd : V → V → Hp → VK → Prop) : Prop :=
  ∀ (pins : List (Addr × Obj)) (s : Shared) (σ : St) (H : Hp) (x y : V) (u v : Value) (Q : VK), Inv X pins σ H s → RelV x u → RelV y v → rd x y H Q → wpAny (model X.prog X.w) X.A (inplaceOp op u v) (EP X pins σ Q) X.xe s
/-- e.f op= value -/
def sFldAug (K : PySem.W.Frag) (ta tv : TE) (rd : V → V → Hp → VK → Prop) (f : Str) : TS := fun D σ H => ta σ H fun x H1 => ∃ a C dx fs v, x = .ref a ∧ H1 a = some (.ins C dx fs) ∧ Cls K C ∧ NoAttr K C f ∧ fs.lookup f = some v ∧
  tv σ H1 fun y H2 => rd v y H2 fun z H3 => ∃ dx' fs', H3 a = some (.ins C dx' fs') ∧ fs'.length < 1000 ∧ D.nx σ (upd H3 a (.ins C dx' (putF f z fs')))

section
variable {X : Cx} {o e value : Expr} {f : Str} {pos pos' tpos : Pos} {ta tv : TE}
theorem pe_fld (he : PE X e ta) (hb : attributeBase e f X.env (eval e X.env) = eval e X.env) : PE X (.Attribute e f pos) (tFld X.K ta f) := by
  intro pins s σ H Q I h
  refine attr_of hb (thn (he pins s σ H _ I h) fun u s1 ⟨x, H1, I1, rx, a, C, dx, fs, v, ex, ea, c, n, l, q⟩ => ?_)
  subst ex
  obtain rfl : u = Value.ref a := rx
  exact getattr_ok I1 ea c n l fun u' s2 I2 ru => ⟨v, H1, I2, ru, q⟩
theorem pe_con (he : PE X e ta) (hb : attributeBase e f X.env (eval e X.env) = eval e X.env) : PE X (.Attribute e f pos) (tCon X.K ta f) := by
  intro pins s σ H Q I h
  refine attr_of hb (thn (he pins s σ H _ I h) fun u s1 ⟨x, H1, I1, rx, a, C, dx, fs, v, u0, ex, ea, c, k, l, q⟩ => ?_)
  subst ex
  obtain rfl : u = Value.ref a := rx
  exact getcon_ok I1 ea c k l fun s2 I2 => ⟨v, H1, I2, k.rel, q⟩
theorem ps_fld (ha : PE X o ta) (hv : PE X value tv) (hs : swapsWith value (some (.Attribute o f pos')) pos.line X.env = pure false) : PS X (.Assign [.Attribute o f pos'] value pos) (sFld X.K ta tv f) := by
  intro pins s σ H D I h
  refine plainObj_wpAny_Assign_Attribute (thn (hv pins s σ H _ I h) fun u s1 ⟨y, H1, I1, ry, q⟩ => thn (ha pins s1 σ H1 _ I1 q) fun ov s2 ⟨x, H2, I2, rx, a, C, dx, fs, ex, ea, c, n, l, q2⟩ => ?_) hs
  subst ex
  obtain rfl : ov = Value.ref a := rx
  exact setattr_ok I2 ea c n l ry fun s3 I3 => ⟨σ, _, I3, q2⟩
theorem ps_fldaug {op : Operator} {rd : V → V → Hp → VK → Prop} (ha : PE X o ta) (hv : PE X value tv) (hop : InOp X op rd) : PS X (.AugAssign (.Attribute o f tpos) op value pos) (sFldAug X.K ta tv rd f) := by
  intro pins s σ H D I h
  refine wpAny_AugAssign_AttributeAny (thn (ha pins s σ H _ I h) fun ov s1 ⟨x, H1, I1, rx, a, C, dx, fs, v, ex, ea, c, n, l, q⟩ => ?_)
  subst ex
  obtain rfl : ov = Value.ref a := rx
  refine getattr_ok I1 ea c n l fun u s2 I2 ru => thn (hv pins s2 σ H1 _ I2 q) fun w3 s3 ⟨y, H2, I3, ry, q3⟩ => thn (hop pins s3 σ H2 v y u w3 _ I3 ru ry q3) fun w4 s4 ⟨z, H3, I4, rz, dx', fs', ea', l', q4⟩ => ?_
  exact setattr_ok I4 ea' c n l' rz fun s5 I5 => ⟨σ, _, I5, q4⟩
def rAdd : V → V → Hp → VK → Prop := fun x y H Q => ∃ i j, x = .int i ∧ y = .int j ∧ Q (.int (i + j)) H
def rSub : V → V → Hp → VK → Prop := fun x y H Q => ∃ i j, x = .int i ∧ y = .int j ∧ Q (.int (i - j)) H
theorem in_add : InOp X .Add rAdd := by
  rintro pins s σ H x y u v Q I rx ry ⟨i, j, rfl, rfl, q⟩
  obtain ⟨t, rfl⟩ := (show ∃ t, u = Value.int i t from rx)
  obtain ⟨t', rfl⟩ := (show ∃ t', v = Value.int j t' from ry)
  exact PyProof.Rows.iadd_int ⟨.int (i + j), H, I.tok _, ⟨_, rfl⟩, q⟩
theorem in_sub : InOp X .Sub rSub := by
  rintro pins s σ H x y u v Q I rx ry ⟨i, j, rfl, rfl, q⟩
  obtain ⟨t, rfl⟩ := (show ∃ t, u = Value.int i t from rx)
  obtain ⟨t', rfl⟩ := (show ∃ t', v = Value.int j t' from ry)
  exact PyProof.Rows.isub_int ⟨.int (i - j), H, I.tok _, ⟨_, rfl⟩, q⟩

/-- what is between an instance and its method: the tree of a method call -/
theorem methcall_of {pl : Sem Bool} {m : Str} {apos : Pos} {args : List Expr} {pins : List (Addr × Obj)} {s : Shared} {σ : St} {H : Hp} {Q : Value → Shared → Prop} {te : TE} (he : PE X e te) (I : Inv X pins σ H s)
    (h : te σ H fun x H1 => ∃ a C dx fs g, x = .ref a ∧ H1 a = some (.ins C dx fs) ∧ Cls X.K C ∧ Meth X.K C m g ∧ fs.lookup m = none ∧
      ∀ s1, Inv X pins σ H1 s1 → wpAny (model X.prog X.w) X.A (callWith pos (.ref g) [.ref a] (backTo pos (starEach args X.env)) (backToKw pos (keywordEach [] X.env))) Q X.xe s1)
    (ht : eval (.Call (.Attribute e m apos) args [] pos) X.env = (do
      let ov ← eval e X.env
      standAt apos.atName
      let (f, first) ← holding [ov] (getMethod ov m pl)
      callWith pos f first (backTo pos (starEach args X.env)) (backToKw pos (keywordEach [] X.env)))) :
    wpAny (model X.prog X.w) X.A (eval (.Call (.Attribute e m apos) args [] pos) X.env) Q X.xe s := by
  refine PySem.W.methodCall_KW (pl := pl) (thn (he pins s σ H _ I h) fun u s1 ⟨x, H1, I1, rx, a, C, dx, fs, g, ex, ea, c, k, l, q⟩ => ?_) ht
  subst ex
  obtain rfl : u = Value.ref a := rx
  exact getmeth_ok I1 ea c k l (q s1 I1)
end

/-! ### isinstance -/
section
variable {X : Cx} {pins : List (Addr × Obj)} {σ : St} {H : Hp} {s : Shared} {A : Around} {E : Value → Shared → Prop} {Q : Value → Shared → Prop} {c : Value} {b : Bool}
/-- the type of a value, as the fragment's deciders take it; for an instance its class -/
inductive TyOf (K : PySem.W.Frag) (H : Hp) : V → Value → Prop where
  | non : TyOf K H .non (.type "NoneType")
  | bl (x : Bool) : TyOf K H (.bl x) (.type "bool")
  | int (i : Int) : TyOf K H (.int i) (.type "int")
  | str (x : Str) : TyOf K H (.str x) (.type "str")
  | flt (x : UInt64) : TyOf K H (.flt x) (.type "float")
  | lst {a : Addr} {xs : List V} (e : H a = some (.lst xs)) : TyOf K H (.ref a) (.type "list")
  | frz {a : Addr} {o : Obj} {xs : List V} (e : H a = some (.frz o (.lst xs))) : TyOf K H (.ref a) (.type "list")
  | tup {a : Addr} {xs : List V} (e : H a = some (.tup xs)) : TyOf K H (.ref a) (.type "tuple")
  | dK {a : Addr} {kvs : List (Key × V)} (e : H a = some (.dK kvs)) : TyOf K H (.ref a) (.type "dict")
  | dT {a : Addr} {kvs : List (List Key × V)} (e : H a = some (.dT kvs)) : TyOf K H (.ref a) (.type "dict")
  | ins {a C dx : Addr} {fs : List (Str × V)} (e : H a = some (.ins C dx fs)) (cl : Cls K C) (ha : PySem.W.findIn K (.ref C) "__class__" = some (some (.builtin "object.__class__")))
      (hn : PySem.W.specialIn K (.builtin "object.__class__") "__get__" = some (some (.builtin "getset_descriptor.__get__"))) (htk : PySem.W.takesIn K (.builtin "object.__class__") = some true)
      (hm : PySem.W.mroIn K C (.type "object") = some true) : TyOf K H (.ref a) (.ref C)
/-- isinstance(x, c) for one class c, a built-in or an own one: kitOne's answer -/
theorem isinst_ok {x : V} {u t : Value} (I : Inv X pins σ H s) (rx : RelV x u) (ty : TyOf X.K H x t) (e : PySem.W.kitOne X.K t c = some b) (h : ∀ tk, Q (.bool b) { s with toks := tk }) :
    wpAny (model X.prog X.w) A (call (.builtin "isinstance") [u, c]) Q E s := by
  cases ty with
  | non => cases (show u = Value.none from rx); exact PySem.W.kia_one PySem.W.kitx_none I.kIn True.intro e (fun z => nomatch z) h
  | bl y => cases (show u = Value.bool y from rx); exact PySem.W.kia_one PySem.W.kitx_bool I.kIn True.intro e (fun z => nomatch z) h
  | int i => obtain ⟨t, q⟩ := (show ∃ t, u = Value.int i t from rx); cases q; exact PySem.W.kia_one PySem.W.kitx_int I.kIn True.intro e (fun z => nomatch z) h
  | str y => obtain ⟨t, q⟩ := (show ∃ t, u = Value.str y t from rx); cases q; exact PySem.W.kia_one PySem.W.kitx_str I.kIn True.intro e (fun z => nomatch z) h
  | flt y => obtain ⟨t, q⟩ := (show ∃ t, u = Value.float y t from rx); cases q; exact PySem.W.kia_one PySem.W.kitx_float I.kIn True.intro e (fun z => nomatch z) h
  | @lst a xs ea =>
    cases (show u = Value.ref a from rx)
    obtain ⟨_, _, n, _, h1⟩ := (show ObjOk X.prog X.w H s.heap a (.lst xs) from I.hok a _ ea)
    exact PySem.W.kia_one PySem.W.kitx_list I.kIn ⟨_, h1, rfl⟩ e (fun z => nomatch z) h
  | @frz a ob xs ea =>
    cases (show u = Value.ref a from rx)
    obtain ⟨_, _, _, n, _, h1⟩ := (show ObjOk X.prog X.w H s.heap a (.frz ob (.lst xs)) from I.hok a _ ea)
    exact PySem.W.kia_one PySem.W.kitx_list I.kIn ⟨_, h1, rfl⟩ e (fun z => nomatch z) h
  | @tup a xs ea =>
    cases (show u = Value.ref a from rx)
    obtain ⟨_, _, _, p⟩ := (show ObjOk X.prog X.w H s.heap a (.tup xs) from I.hok a _ ea)
    obtain ⟨o, h1, h2, _⟩ := p
    exact PySem.W.kia_one PySem.W.kitx_tuple I.kIn ⟨o, h1, h2⟩ e (fun z => nomatch z) h
  | @dK a kvs ea =>
    cases (show u = Value.ref a from rx)
    obtain ⟨_, _, vs, _, p⟩ := (show ObjOk X.prog X.w H s.heap a (.dK kvs) from I.hok a _ ea)
    obtain ⟨o, es, ep, h1, h2, _⟩ := p
    exact PySem.W.kia_one PySem.W.kitx_dict I.kIn ⟨o, h1, h2.1⟩ e (fun z => nomatch z) h
  | @dT a kvs ea =>
    cases (show u = Value.ref a from rx)
    obtain ⟨_, _, xs, _, o, es, ep, h1, h2, _⟩ := (show ObjOk X.prog X.w H s.heap a (.dT kvs) from I.hok a _ ea)
    exact PySem.W.kia_one PySem.W.kitx_dict I.kIn ⟨o, h1, h2.1⟩ e (fun z => nomatch z) h
  | @ins a C dx fs ea cl ha hn htk hm =>
    cases (show u = Value.ref a from rx)
    obtain ⟨mA, O, _⟩ := ins_get I.hok ea
    obtain ⟨od, J, _⟩ := O.look
    exact PySem.W.kia_one (PySem.W.kitx_own (cl.get _) cl.hd ha hn htk hm) I.kIn J e (fun z => nomatch z) h
end
end L2

namespace L2
open PySem PySem.Spec PyProof.Rows

/-! ### room -/
structure Room (k : Nat) (A : Around) : Prop where
  hd : A.handled = none
  dp : A.depth + 3 * k + 5 < recursionLimit
  un : A.units + 16 * k + 200 < cLine
theorem Room.mono {j k : Nat} {A : Around} (r : Room k A) (h : j ≤ k) : Room j A := ⟨r.hd, by have := r.dp; omega, by have := r.un; omega⟩
theorem Room.deeper {k : Nat} {A : Around} (r : Room (k + 1) A) (env : Env) : Room k (A.deeper env) :=
  ⟨r.hd, by have := r.dp; show A.depth + 1 + 3 * k + 5 < _; omega, by have := r.un; show A.units + 3 + 16 * k + 200 < _; omega⟩
theorem Room.in1 {k : Nat} {A : Around} (r : Room (k + 1) A) : Room k A.in1 :=
  ⟨r.hd, by have := r.dp; show A.depth + 3 * k + 5 < _; omega, by have := r.un; show A.units + 1 + 16 * k + 200 < _; omega⟩
theorem make_depth {A : Around} {C : Addr} {us : List Value} {kw : List (Str × Value)} : (A.under (.builtin "type.__call__" ⟨.ref C :: us, kw⟩)).depth = A.depth + 1 := by
  first | rfl | simp [Around.under, Code.weight, Code.isCreation, Code.isGuard, Code.isCaller, Code.frames, Code.isFrame, guardIds]
theorem make_units {A : Around} {C : Addr} {us : List Value} {kw : List (Str × Value)} : (A.under (.builtin "type.__call__" ⟨.ref C :: us, kw⟩)).units = A.units + 1 := by
  first | rfl | simp [Around.under, Code.cUnits, Code.frames, Code.isFrame]
theorem Room.make {k : Nat} {A : Around} (r : Room (k + 1) A) (C : Addr) (us : List Value) (kw : List (Str × Value)) : Room k (A.under (.builtin "type.__call__" ⟨.ref C :: us, kw⟩)) :=
  ⟨r.hd, by have := r.dp; rw [make_depth]; omega, by have := r.un; rw [make_units]; omega⟩
theorem Room.depth {k : Nat} {A : Around} (r : Room k A) : A.depth < recursionLimit := by have := r.dp; omega
theorem Room.units {k : Nat} {A : Around} (r : Room k A) : A.units + 64 < cLine := by have := r.un; omega
theorem Room.units0 {k : Nat} {A : Around} (r : Room k A) : A.units < cLine := by have := r.un; omega

/-! ### argument lists and displays -/
def tNil : TA := fun _ H Q => Q [] H
def tCons (ta : TE) (tr : TA) : TA := fun σ H Q => ta σ H fun x H1 => tr σ H1 fun xs H2 => Q (x :: xs) H2
section
variable {X : Cx} {e : Expr} {es : List Expr} {te : TE} {t : TA} {pos : Pos}
theorem pa_nil : PA X [] tNil := fun _ _ _ _ H Q I h => Calls.spliced_nil ⟨[], H, I, .nil, h⟩
theorem pa_cons (ha : PE X e te) (hr : PA X es t) (hs : starEach (e :: es) X.env = (false, eval e X.env) :: starEach es X.env := by rfl) : PA X (e :: es) (tCons te t) := by
  intro pos pins s σ H Q I h
  rw [hs]
  show wpAny _ _ (spliced ((false, eval e X.env) :: backTo pos (starEach es X.env))) _ _ s
  refine Calls.spliced_cons (thn (ha pins s σ H _ I h) fun u s1 ⟨x, H1, I1, r1, q1⟩ => ?_)
  exact thn (hr pos pins s1 σ H1 _ I1 q1) fun us s2 ⟨xs, H2, I2, r2, q2⟩ => ⟨x :: xs, H2, I2, .cons r1 r2, q2⟩

/-- a tuple, a list of written items -/
def tTup (t : TA) : TE := fun σ H Q => t σ H fun xs H1 => xs.length ≤ sizeLine ∧ ∀ p, H1 p = none → Q (.ref p) (upd H1 p (.tup xs))
def tLst (t : TA) : TE := fun σ H Q => t σ H fun xs H1 => xs.length ≤ sizeLine ∧ ∀ p, H1 p = none → Q (.ref p) (upd H1 p (.lst xs))
theorem pe_tup {x1} (h : PA X es t) : PE X (.Tuple es x1 pos) (tTup t) := by
  intro pins s σ H Q I hq
  refine wpAny_Tuple_spliced (thn (h pos pins s σ H _ I hq) fun us s1 ⟨xs, H1, I1, r, z, q⟩ => ⟨by rw [← r.length]; exact z, ?_⟩)
  have hf : H1 s1.heap.objs.size = none := I1.hok.fresh (Nat.le_refl _)
  refine ⟨.ref s1.heap.objs.size, upd H1 s1.heap.objs.size (.tup xs), I1.laid (t' := s1.toks) (fun b u e => Heap.get?_push_of_some _ e) (Nat.le_refl _) ?_, rfl, q _ hf⟩
  exact ⟨z, us, r, ⟨_, Heap.get?_push_size _ rfl, rfl, _, rfl⟩⟩
theorem pe_lst (h : PA X es t) : PE X (.List es pos) (tLst t) := by
  intro pins s σ H Q I hq
  refine wpAny_List_spliced (thn (h pos pins s σ H _ I hq) fun us s1 ⟨xs, H1, I1, r, z, q⟩ => ⟨by rw [← r.length]; exact z, ?_⟩)
  have hf : H1 s1.heap.objs.size = none := I1.hok.fresh (Nat.le_refl _)
  refine ⟨.ref s1.heap.objs.size, upd H1 s1.heap.objs.size (.lst xs), I1.laid (t' := s1.toks) (fun b u e => Heap.get?_push_of_some _ e) (Nat.le_refl _) ?_, rfl, q _ hf⟩
  exact ⟨z, us, 0, r, Heap.get?_push_size _ rfl⟩
end

/-! ### what a def promises -/
/-- a def's promise: the bound arguments in the parameters' order, the heap, the wanted end, the wanted exception -/
abbrev Sp := List V → Hp → VK → XK → Prop
/-- how an exception lies behind a call (file 08 gives it): the callers' frames, abstract heap and state ahead of the call, the wish, the exception, the state -/
abbrev CXT := List Env → Hp → Shared → XK → Value → Shared → Prop

/-- the state at a call -/
structure Env0 (P : Program) (w : World) (K : PySem.W.Frag) (mg : Str → Option Value) (base : Heap) (A : Around) (outer : List Env) (s : Shared) (H : Hp) : Prop where
  frames : A.frames = some outer
  mod : Mod K mg base
  bs : ∀ b o, base.get? b = some o → s.heap.get? b = some o ∧ H b = none
  bsz : base.objs.size ≤ s.heap.objs.size
  funs : s.heap.FunFrames base outer
  frf : ∀ b ∈ frs outer, H b = none
  hok : HOk P w H s.heap
  bare : AllBare s.gens
/-- a call's end -/
def CE (outer : List Env) (P : Program) (w : World) (H : Hp) (s : Shared) (Q : VK) (u : Value) (s' : Shared) : Prop :=
  ∃ v H', s'.os = s.os ∧ AllBare s'.gens ∧ Un (frs outer) [] H H' s.heap s'.heap ∧ HOk P w H' s'.heap ∧ RelV v u ∧ Q v H'
def CR (CX : CXT) (outer : List Env) (P : Program) (w : World) (H : Hp) (s : Shared) (Q : VK) (E : XK) (r : Result) (s' : Shared) : Prop :=
  match r with
  | .ok (.ret u) => CE outer P w H s Q u s'
  | .ok _ => False
  | .error e => CX outer H s E e s'
structure FnOk (P : Program) (w : World) (K : PySem.W.Frag) (mg : Str → Option Value) (base : Heap) (CX : CXT) (k : Nat) (f : Addr) (fd : FuncData) (ps : List Str) (sp : Sp) : Prop where
  len : ∀ vs H Q E, sp vs H Q E → vs.length = ps.length
  run : ∀ (A : Around) (outer : List Env) (s : Shared) (H : Hp) (args : Args) (us : List Value) (vs : List V) (Q : VK) (E : XK), Room k A → Env0 P w K mg base A outer s H → BindsTo s fd args (ps.zip us) → Vals vs us → sp vs H Q E →
    codeAny (model P w) A (.call (.ref f) args) (CR CX outer P w H s Q E) s
theorem FnOk.mono {P : Program} {w : World} {K : PySem.W.Frag} {mg : Str → Option Value} {base : Heap} {CX : CXT} {j k : Nat} {f : Addr} {fd : FuncData} {ps : List Str} {sp : Sp} (F : FnOk P w K mg base CX j f fd ps sp) (h : j ≤ k) :
    FnOk P w K mg base CX k f fd ps sp := ⟨F.len, fun A outer s H args us vs Q E hr => F.run A outer s H args us vs Q E (hr.mono h)⟩
/-- a weaker promise -/
theorem FnOk.imp {P : Program} {w : World} {K : PySem.W.Frag} {mg : Str → Option Value} {base : Heap} {CX : CXT} {k : Nat} {f : Addr} {fd : FuncData} {ps : List Str} {sp sp' : Sp} (F : FnOk P w K mg base CX k f fd ps sp)
    (h : ∀ vs H Q E, sp' vs H Q E → sp vs H Q E) : FnOk P w K mg base CX k f fd ps sp' :=
  ⟨fun vs H Q E q => F.len vs H Q E (h _ _ _ _ q), fun A outer s H args us vs Q E hr he hb hv hs => F.run A outer s H args us vs Q E hr he hb hv (h _ _ _ _ hs)⟩

theorem Env0.make {P : Program} {w : World} {K : PySem.W.Frag} {mg : Str → Option Value} {base : Heap} {A : Around} {outer : List Env} {s : Shared} {H : Hp} (e : Env0 P w K mg base A outer s H) (C : Addr) (us : List Value) (kw : List (Str × Value)) :
    Env0 P w K mg base (A.under (.builtin "type.__call__" ⟨.ref C :: us, kw⟩)) outer s H := ⟨by first | exact e.frames | (simpa [Around.under, Code.envs, Code.isFrame, pushEnvs] using e.frames), e.mod, e.bs, e.bsz, e.funs, e.frf, e.hok, e.bare⟩
theorem Env0.in1 {P : Program} {w : World} {K : PySem.W.Frag} {mg : Str → Option Value} {base : Heap} {A : Around} {outer : List Env} {s : Shared} {H : Hp} (e : Env0 P w K mg base A outer s H) :
    Env0 P w K mg base A.in1 outer s H := ⟨e.frames, e.mod, e.bs, e.bsz, e.funs, e.frf, e.hok, e.bare⟩

section
variable {X : Cx} {pins : List (Addr × Obj)} {σ : St} {H : Hp} {s s' : Shared}
/-- from a body: what a callee wants -/
theorem Inv.env0 (I : Inv X pins σ H s) : Env0 X.prog X.w X.K X.mg X.base X.A X.stack s H :=
  ⟨I.ok.frames, I.ok.mod, I.bs, Nat.le_trans I.ok.bsz I.sz, I.stack, I.stkFree, I.hok, I.bare⟩
/-- behind a call -/
theorem Inv.after {Q : VK} {u : Value} (I : Inv X pins σ H s) (h : CE X.stack X.prog X.w H s Q u s') : EP X pins σ Q u s' := by
  obtain ⟨v, H', os, bare, un, hok, r, q⟩ := h
  obtain ⟨hh, g, d, t, os'⟩ := s'
  obtain rfl : os' = s.os := os
  exact ⟨v, H', I.call (h' := hh) (g' := g) (d' := d) (t' := t) (ch := []) un hok bare (fun b z => absurd z (by simp)), r, q⟩
end

/-! ### calls -/
/-- f(..): the written arguments, then the defaults dvs; E: what is wanted of an exception -/
def tCall (sp : Sp) (dvs : List V) (E : XK) (t : TA) : TE := fun σ H Q => t σ H fun vs H1 => sp (vs ++ dvs) H1 Q E
/-- o.m(..) of an instance of the class at C -/
def tMeth (C : Addr) (m : Str) (sp : Sp) (dvs : List V) (E : XK) (ta : TE) (t : TA) : TE := fun σ H Q => ta σ H fun x H1 => ∃ a dx fs, x = .ref a ∧ H1 a = some (.ins C dx fs) ∧ fs.lookup m = none ∧
  t σ H1 fun vs H2 => sp (x :: (vs ++ dvs)) H2 Q E
/-- C(..): a new instance and its dict, then __init__ -/
def tMake (C : Addr) (sp : Sp) (dvs : List V) (E : XK) (t : TA) : TE := fun σ H Q => t σ H fun vs H1 => ∀ x dx, H1 x = none → H1 dx = none → dx ≠ x →
  sp (.ref x :: (vs ++ dvs)) (upd (upd H1 dx (.own x)) x (.ins C dx [])) (fun v H2 => v = .non ∧ Q (.ref x) H2) E

/-- how the parameters are bound: us the positional arguments, kw the keywords' values by name, ds the defaults that fill up -/
def Binds (K : PySem.W.Frag) (fd : FuncData) (ps : List Str) (ds : List Value) : Prop :=
  ∀ (s : Shared) (us : List Value), K.In s.heap → (us ++ ds).length = ps.length → BindsTo s fd ⟨us, []⟩ (ps.zip (us ++ ds))
/-- every parameter is given -/
theorem Binds.all {K : PySem.W.Frag} {fd : FuncData} {ps : List Str} (h : ∀ us : List Value, us.length = ps.length → bindArgs fd ⟨us, []⟩ = pure (ps.zip us)) : Binds K fd ps [] := fun s us _ hl => by
  rw [List.append_nil] at hl ⊢
  exact .of_eq (h us hl)

/-- an exception of a callee reaches what this body wants of exceptions -/
def Passes (CX : CXT) (X : Cx) (E : XK) : Prop := ∀ (pins : List (Addr × Obj)) (σ : St) (H : Hp) (s : Shared) (e : Value) (s' : Shared), Inv X pins σ H s → CX X.stack H s E e s' → X.xe e s'

section
variable {X : Cx} {CX : CXT} {k : Nat} {f C : Addr} {fd : FuncData} {ps : List Str} {sp : Sp} {dvs : List V} {ds : List Value} {E : XK} {x m : Str} {p pos apos : Pos} {e o : Expr} {es : List Expr} {ta : TE} {t : TA}

/-- the callee runs -/
theorem run_fn {pins : List (Addr × Obj)} {σ : St} {H : Hp} {s : Shared} {Q : VK} {us : List Value} {vs : List V} (F : FnOk X.prog X.w X.K X.mg X.base CX k f fd ps sp) (hr : Room k X.A) (hb : Binds X.K fd ps ds) (hd : Vals dvs ds) (hx : Passes CX X E)
    (I : Inv X pins σ H s) (r : Vals vs us) (h : sp (vs ++ dvs) H Q E) : wpAny (model X.prog X.w) X.A (call (.ref f) us) (EP X pins σ Q) X.xe s := by
  have r2 : Vals (vs ++ dvs) (us ++ ds) := r.append hd
  have hl : (us ++ ds).length = ps.length := by rw [← r2.length]; exact F.len _ _ _ _ h
  refine wpAny_call (codeAny_mono (F.run X.A X.stack s H ⟨us, []⟩ (us ++ ds) (vs ++ dvs) Q E hr I.env0 (hb s us I.kIn hl) r2 h) fun r s' hq => ?_)
  cases r with
  | error e => exact hx pins σ H s e s' I hq
  | ok fl =>
    cases fl with
    | ret u => exact I.after hq
    | next => exact False.elim hq
    | brk => exact False.elim hq
    | cont => exact False.elim hq

theorem pe_call (F : FnOk X.prog X.w X.K X.mg X.base CX k f fd ps sp) (hr : Room k X.A) (hg : Gl X x) (hm : X.mg x = some (.ref f)) (hk : PySem.W.keepIn X.K (.ref f) = true) (hb : Binds X.K fd ps ds) (hd : Vals dvs ds) (hx : Passes CX X E)
    (ha : PA X (e :: es) t) (hdb : (x == ("__debug__" : Str)) = false := by decide) (he : starEach (e :: es) X.env = (false, eval e X.env) :: starEach es X.env := by rfl) (hpl : (backTo pos (starEach es X.env)).any (·.1) = false := by rfl) :
    PE X (.Call (.Name x p) (e :: es) [] pos) (tCall sp dvs E t) := by
  intro pins s σ H Q I h
  refine wpAny_Call_Name_kw (ld_glob I hg hm ?_ hdb)
  refine PySem.W.callWith_K (h₀ := X.base) I.ok.mod.kin hk (thn (ha pos pins s σ H _ I h) fun us s1 ⟨vs, H1, I1, r, q⟩ => ⟨I1.kIn, ?_⟩) he hpl
  exact run_fn F hr hb hd hx I1 r q
theorem pe_call0 (F : FnOk X.prog X.w X.K X.mg X.base CX k f fd ps sp) (hr : Room k X.A) (hg : Gl X x) (hm : X.mg x = some (.ref f)) (hk : PySem.W.keepIn X.K (.ref f) = true) (hb : Binds X.K fd ps ds) (hd : Vals dvs ds) (hx : Passes CX X E)
    (hdb : (x == ("__debug__" : Str)) = false := by decide) : PE X (.Call (.Name x p) [] [] pos) (tCall sp dvs E tNil) := by
  intro pins s σ H Q I h
  refine wpAny_Call_Name_kw (ld_glob I hg hm ?_ hdb)
  exact PySem.W.callWith_K0 I.kIn hk (run_fn (us := []) F hr hb hd hx I .nil h)

/-- o.m(e, ..) -/
theorem pe_meth {pl : Sem Bool} (he : PE X o ta) (c : Cls X.K C) (hm : Meth X.K C m f) (F : FnOk X.prog X.w X.K X.mg X.base CX k f fd ps sp) (hr : Room k X.A) (hb : Binds X.K fd ps ds) (hd : Vals dvs ds) (hx : Passes CX X E) (ha : PA X (e :: es) t)
    (hst : starEach (e :: es) X.env = (false, eval e X.env) :: starEach es X.env := by rfl) (hpl : (backTo pos (starEach es X.env)).any (·.1) = false := by rfl)
    (ht : eval (.Call (.Attribute o m apos) (e :: es) [] pos) X.env = (do
      let ov ← eval o X.env
      standAt apos.atName
      let (f, first) ← holding [ov] (getMethod ov m pl)
      callWith pos f first (backTo pos (starEach (e :: es) X.env)) (backToKw pos (keywordEach [] X.env))) := by rfl) :
    PE X (.Call (.Attribute o m apos) (e :: es) [] pos) (tMeth C m sp dvs E ta t) := by
  intro pins s σ H Q I h
  refine PySem.W.methodCall_KW (pl := pl) (thn (he pins s σ H _ I h) fun u s1 ⟨x, H1, I1, rx, a, dx, fs, ex, ea, l, q⟩ => ?_) ht
  subst ex
  obtain rfl : u = Value.ref a := rx
  refine getmeth_ok I1 ea c hm l ?_
  refine PySem.W.callWith_K (first := [.ref a]) (h₀ := X.base) I.ok.mod.kin hm.kp (thn (ha pos pins s1 σ H1 _ I1 q) fun us s2 ⟨vs, H2, I2, r, q2⟩ => ⟨I2.kIn, ?_⟩) hst hpl
  exact run_fn (us := .ref a :: us) (vs := .ref a :: vs) F hr hb hd hx I2 (.cons rfl r) q2
/-- o.m() -/
theorem pe_meth0 {pl : Sem Bool} (he : PE X o ta) (c : Cls X.K C) (hm : Meth X.K C m f) (F : FnOk X.prog X.w X.K X.mg X.base CX k f fd ps sp) (hr : Room k X.A) (hb : Binds X.K fd ps ds) (hd : Vals dvs ds) (hx : Passes CX X E)
    (ht : eval (.Call (.Attribute o m apos) [] [] pos) X.env = (do
      let ov ← eval o X.env
      standAt apos.atName
      let (f, first) ← holding [ov] (getMethod ov m pl)
      callWith pos f first (backTo pos (starEach [] X.env)) (backToKw pos (keywordEach [] X.env))) := by rfl) :
    PE X (.Call (.Attribute o m apos) [] [] pos) (tMeth C m sp dvs E ta tNil) := by
  intro pins s σ H Q I h
  refine PySem.W.methodCall_KW (pl := pl) (thn (he pins s σ H _ I h) fun u s1 ⟨x, H1, I1, rx, a, dx, fs, ex, ea, l, q⟩ => ?_) ht
  subst ex
  obtain rfl : u = Value.ref a := rx
  refine getmeth_ok I1 ea c hm l ?_
  exact PySem.W.callWith_K0 (first := [.ref a]) I1.kIn hm.kp (run_fn (us := [.ref a]) (vs := [.ref a]) F hr hb hd hx I1 (.cons rfl .nil) q)

/-- what a class must have to be made -/
structure Mk (K : PySem.W.Frag) (C f : Addr) : Prop where
  makes : PySem.W.makesIn K C = true
  init : PySem.W.findIn K (.ref C) "__init__" = some (some (.ref f))
  fn : PySem.W.isFn K (.ref f) = true
  kp : PySem.W.keepIn K (.ref C) = true

theorem run_make {pins : List (Addr × Obj)} {σ : St} {H : Hp} {s : Shared} {Q : VK} {us : List Value} {vs : List V} (M : Mk X.K C f) (F : FnOk X.prog X.w X.K X.mg X.base CX k f fd ps sp) (hr : Room (k + 1) X.A) (hb : Binds X.K fd ps ds) (hd : Vals dvs ds)
    (hx : Passes CX X E) (I : Inv X pins σ H s) (r : Vals vs us)
    (h : ∀ x dx, H x = none → H dx = none → dx ≠ x → sp (.ref x :: (vs ++ dvs)) (upd (upd H dx (.own x)) x (.ins C dx [])) (fun v H2 => v = .non ∧ Q (.ref x) H2) E) :
    wpAny (model X.prog X.w) X.A (call (.ref C) us) (EP X pins σ Q) X.xe s := by
  have hq := h (s.heap.objs.size + 1) s.heap.objs.size (I.hok.fresh (Nat.le_succ _)) (I.hok.fresh (Nat.le_refl _)) (Nat.ne_of_lt (Nat.lt_succ_self _))
  have I2 := Inv.made (C := C) I
  have r2 : Vals (V.ref (s.heap.objs.size + 1) :: (vs ++ dvs)) (Value.ref (s.heap.objs.size + 1) :: (us ++ ds)) := .cons rfl (r.append hd)
  have hl : (Value.ref (s.heap.objs.size + 1) :: us ++ ds).length = ps.length := by
    have e := r2.length
    rw [F.len _ _ _ _ hq] at e
    exact e.symm
  refine wpAny_call (make_map (f := f) I.kIn M.makes M.init (beq_iff_eq.mp M.fn) (codeAny_mono (F.run _ X.stack _ _ ⟨Value.ref (s.heap.objs.size + 1) :: us, []⟩ (Value.ref (s.heap.objs.size + 1) :: (us ++ ds)) _ _ E (hr.make C us [])
    (I2.env0.make C us []) (hb _ (Value.ref (s.heap.objs.size + 1) :: us) I2.kIn hl) r2 hq) fun r s' hq' => ?_))
  cases r with
  | error e => exact hx pins σ _ _ e s' I2 hq'
  | ok fl =>
    cases fl with
    | ret u =>
      obtain ⟨v, H', I3, rv, ev, q3⟩ := I2.after hq'
      subst ev
      exact ⟨rv, ⟨V.ref (s.heap.objs.size + 1), H', I3, rfl, q3⟩⟩
    | next => exact False.elim hq'
    | brk => exact False.elim hq'
    | cont => exact False.elim hq'
theorem pe_make (M : Mk X.K C f) (F : FnOk X.prog X.w X.K X.mg X.base CX k f fd ps sp) (hr : Room (k + 1) X.A) (hg : Gl X x) (hm : X.mg x = some (.ref C)) (hb : Binds X.K fd ps ds) (hd : Vals dvs ds) (hx : Passes CX X E)
    (ha : PA X (e :: es) t) (hdb : (x == ("__debug__" : Str)) = false := by decide) (he : starEach (e :: es) X.env = (false, eval e X.env) :: starEach es X.env := by rfl) (hpl : (backTo pos (starEach es X.env)).any (·.1) = false := by rfl) :
    PE X (.Call (.Name x p) (e :: es) [] pos) (tMake C sp dvs E t) := by
  intro pins s σ H Q I h
  refine wpAny_Call_Name_kw (ld_glob I hg hm ?_ hdb)
  refine PySem.W.callWith_K (h₀ := X.base) I.ok.mod.kin M.kp (thn (ha pos pins s σ H _ I h) fun us s1 ⟨vs, H1, I1, r, q⟩ => ⟨I1.kIn, ?_⟩) he hpl
  exact run_make M F hr hb hd hx I1 r q
theorem pe_make0 (M : Mk X.K C f) (F : FnOk X.prog X.w X.K X.mg X.base CX k f fd ps sp) (hr : Room (k + 1) X.A) (hg : Gl X x) (hm : X.mg x = some (.ref C)) (hb : Binds X.K fd ps ds) (hd : Vals dvs ds) (hx : Passes CX X E)
    (hdb : (x == ("__debug__" : Str)) = false := by decide) : PE X (.Call (.Name x p) [] [] pos) (tMake C sp dvs E tNil) := by
  intro pins s σ H Q I h
  refine wpAny_Call_Name_kw (ld_glob I hg hm ?_ hdb)
  exact PySem.W.callWith_K0 I.kIn M.kp (run_make (us := []) M F hr hb hd hx I .nil h)
end

/-! ### keywords -/
/-- the values of the keywords, from the left -/
def PK (X : Cx) (kws : List Keyword) (t : TA) : Prop :=
  ∀ (pos : Pos) (pins : List (Addr × Obj)) (s : Shared) (σ : St) (H : Hp) (Q : List V → Hp → Prop), Inv X pins σ H s → t σ H Q → wpAny (model X.prog X.w) X.A (evalAll ((backToKw pos (keywordEach kws X.env)).map (·.2))) (AP X pins σ Q) X.xe s
section
variable {X : Cx} {CX : CXT} {k : Nat} {f C : Addr} {fd : FuncData} {ps ks : List Str} {sp : Sp} {E : XK} {x m : Str} {p pos apos kpos : Pos} {e o : Expr} {es : List Expr} {kws : List Keyword} {te ta : TE} {t tk : TA} {nm : Option Str}
theorem pk_nil : PK X [] tNil := fun _ _ _ _ H Q I h => wpAny_evalAll_nil ⟨[], H, I, .nil, h⟩
theorem pk_cons (ha : PE X e te) (hr : PK X kws t) : PK X (⟨nm, e, kpos⟩ :: kws) (tCons te t) := by
  intro pos pins s σ H Q I h
  show wpAny _ _ (evalAll ((do let v ← eval e X.env; standAt pos; pure v) :: (backToKw pos (keywordEach kws X.env)).map (·.2))) _ _ s
  refine wpAny_evalAll_cons (wpAny_bind (thn (ha pins s σ H _ I h) fun u s1 ⟨x, H1, I1, r1, q1⟩ => wpAny_bind (wpAny_standAt (wpAny_pure ?_))))
  exact thn (hr pos pins s1 σ H1 _ I1 q1) fun us s2 ⟨xs, H2, I2, r2, q2⟩ => ⟨x :: xs, H2, I2, .cons r1 r2, q2⟩

/-- how a call with keywords binds: g puts the positional values us and the keywords' values ws (names ks) in the parameters' order, defaults among them -/
structure KBinds (K : PySem.W.Frag) (fd : FuncData) (ps ks : List Str) (g : List Value → List Value → List Value) (gV : List V → List V → List V) : Prop where
  to : ∀ (s : Shared) (us ws : List Value), K.In s.heap → (g us ws).length = ps.length → BindsTo s fd ⟨us, ks.zip ws⟩ (ps.zip (g us ws))
  rel : ∀ {vs : List V} {us : List Value} {zs : List V} {ws : List Value}, Vals vs us → Vals zs ws → Vals (gV vs zs) (g us ws)
def tCallK (sp : Sp) (gV : List V → List V → List V) (E : XK) (t tk : TA) : TE := fun σ H Q => t σ H fun vs H1 => tk σ H1 fun zs H2 => sp (gV vs zs) H2 Q E
variable {g : List Value → List Value → List Value} {gV : List V → List V → List V}
theorem run_fnk {pins : List (Addr × Obj)} {σ : St} {H : Hp} {s : Shared} {Q : VK} {us ws : List Value} {vs zs : List V} (F : FnOk X.prog X.w X.K X.mg X.base CX k f fd ps sp) (hr : Room k X.A) (hb : KBinds X.K fd ps ks g gV) (hx : Passes CX X E)
    (I : Inv X pins σ H s) (r : Vals vs us) (rz : Vals zs ws) (h : sp (gV vs zs) H Q E) : wpAny (model X.prog X.w) X.A (call (.ref f) us (ks.zip ws)) (EP X pins σ Q) X.xe s := by
  have r2 := hb.rel r rz
  have hl : (g us ws).length = ps.length := by rw [← r2.length]; exact F.len _ _ _ _ h
  refine wpAny_call (codeAny_mono (F.run X.A X.stack s H ⟨us, ks.zip ws⟩ (g us ws) (gV vs zs) Q E hr I.env0 (hb.to s us ws I.kIn hl) r2 h) fun r s' hq => ?_)
  cases r with
  | error e => exact hx pins σ H s e s' I hq
  | ok fl =>
    cases fl with
    | ret u => exact I.after hq
    | next => exact False.elim hq
    | brk => exact False.elim hq
    | cont => exact False.elim hq
/-- f(e, .., k = v, ..) -/
theorem pe_callK (F : FnOk X.prog X.w X.K X.mg X.base CX k f fd ps sp) (hr : Room k X.A) (hg : Gl X x) (hm : X.mg x = some (.ref f)) (hk : PySem.W.keepIn X.K (.ref f) = true) (hb : KBinds X.K fd ps ks g gV) (hx : Passes CX X E)
    (ha : PA X (e :: es) t) (hkw : PK X kws tk) (hall : (backToKw pos (keywordEach kws X.env)).all (·.1.isSome) = true := by rfl) (hks : (backToKw pos (keywordEach kws X.env)).filterMap (·.1) = ks := by rfl)
    (hdb : (x == ("__debug__" : Str)) = false := by decide) (he : starEach (e :: es) X.env = (false, eval e X.env) :: starEach es X.env := by rfl)
    (hpl : ((backTo pos (starEach (e :: es) X.env)).any (·.1) || (backToKw pos (keywordEach kws X.env)).any (·.1.isNone)) = false := by rfl) :
    PE X (.Call (.Name x p) (e :: es) kws pos) (tCallK sp gV E t tk) := by
  intro pins s σ H Q I h
  refine wpAny_Call_Name_kw (ld_glob I hg hm ?_ hdb)
  refine PySem.W.callWith_KW (h₀ := X.base) I.ok.mod.kin hk hall (thn (ha pos pins s σ H _ I h) fun us s1 ⟨vs, H1, I1, r, q⟩ => ?_) hpl he
  refine thn (hkw pos pins s1 σ H1 _ I1 q) fun ws s2 ⟨zs, H2, I2, rz, q2⟩ => ⟨I2.kIn, ?_⟩
  rw [hks]
  exact run_fnk F hr hb hx I2 r rz q2
end

/-! ### a def's body keeps its promise -/
/-- names: the parameters first -/
structure FnScope (N P : List Str) (sc : Scope) : Prop where
  kind : sc.kind = .function
  co : sc.isCoroutine = false
  gen : sc.isGenerator = false
  nd : N.Nodup
  pre : N.take P.length = P
  par : ∀ x ∈ P, sc.names.lookup x = some .local ∨ sc.names.lookup x = some .cell
  nofree : ∀ y ∈ sc.names, y.2 ≠ .free

theorem bindL_out {kindOf : Str → Option NameKind} {x : Str} : ∀ {binds : List (Str × Value)} {m : Str → Option Value}, (∀ v, (x, v) ∉ binds) → bindL kindOf binds m x = m x
  | [], _, _ => rfl
  | (n, v) :: r, m, h => by
    unfold bindL
    rw [bindL_out fun w hw => h w (List.mem_cons_of_mem _ hw)]
    split
    · have : x ≠ n := by rintro rfl; exact h v List.mem_cons_self
      simp [this]
    · rfl
theorem bindC_out {kindOf : Str → Option NameKind} {x : Str} : ∀ {binds : List (Str × Value)} {m : Str → Option Value}, (∀ v, (x, v) ∉ binds) → bindC kindOf binds m x = m x
  | [], _, _ => rfl
  | (n, v) :: r, m, h => by
    unfold bindC
    rw [bindC_out fun w hw => h w (List.mem_cons_of_mem _ hw)]
    split
    · rfl
    · have : x ≠ n := by rintro rfl; exact h v List.mem_cons_self
      simp [this]
theorem bindL_get {kindOf : Str → Option NameKind} {x : Str} {v : Value} : ∀ {P : List Str} {vs : List Value} {i : Nat} {m : Str → Option Value}, P.Nodup → P[i]? = some x → vs[i]? = some v → kindOf x = some .local →
    bindL kindOf (P.zip vs) m x = some v
  | [], _, _, _, _, h, _, _ => by simp at h
  | _ :: _, [], _, _, _, _, h, _ => by simp at h
  | p :: P, w :: vs, 0, m, nd, h1, h2, hk => by
    simp at h1 h2; subst h1; subst h2
    show bindL kindOf ((p, w) :: P.zip vs) m p = _
    unfold bindL
    rw [bindL_out fun v hv => (List.nodup_cons.mp nd).1 (List.of_mem_zip hv).1, if_pos hk]
    simp
  | p :: P, w :: vs, i + 1, m, nd, h1, h2, hk => by
    show bindL kindOf ((p, w) :: P.zip vs) m x = _
    unfold bindL
    exact bindL_get (i := i) (List.nodup_cons.mp nd).2 (by simpa using h1) (by simpa using h2) hk
theorem bindC_get {kindOf : Str → Option NameKind} {x : Str} {v : Value} : ∀ {P : List Str} {vs : List Value} {i : Nat} {m : Str → Option Value}, P.Nodup → P[i]? = some x → vs[i]? = some v → kindOf x ≠ some .local →
    bindC kindOf (P.zip vs) m x = some v
  | [], _, _, _, _, h, _, _ => by simp at h
  | _ :: _, [], _, _, _, _, h, _ => by simp at h
  | p :: P, w :: vs, 0, m, nd, h1, h2, hk => by
    simp at h1 h2; subst h1; subst h2
    show bindC kindOf ((p, w) :: P.zip vs) m p = _
    unfold bindC
    rw [bindC_out fun v hv => (List.nodup_cons.mp nd).1 (List.of_mem_zip hv).1, if_neg hk]
    simp
  | p :: P, w :: vs, i + 1, m, nd, h1, h2, hk => by
    show bindC kindOf ((p, w) :: P.zip vs) m x = _
    unfold bindC
    exact bindC_get (i := i) (List.nodup_cons.mp nd).2 (by simpa using h1) (by simpa using h2) hk

/-- the names' values at the entry -/
def start (N : List Str) (vs : List V) : St := vs.map some ++ List.replicate (N.length - vs.length) none

/-- the context of a def's body, at its entry; an exception leaves the frame, then lies as CX says -/
def cxOf (CX : CXT) (P : Program) (w : World) (K : PySem.W.Frag) (mg : Str → Option Value) (base : Heap) (N : List Str) (qual : Str) (scope : Scope) (f : Addr) (cd : Value) (A : Around) (outer : List Env) (s : Shared) (H : Hp) (E : XK) : Cx where
  prog := P
  w := w
  K := K
  mg := mg
  base := base
  A := A.deeper (envOfC qual scope s.heap.objs.size f cd)
  N := N
  s₀ := s
  H₀ := H
  env := envOfC qual scope s.heap.objs.size f cd
  outer := outer
  stack := envOfC qual scope s.heap.objs.size f cd :: outer
  ex := []
  calm := true
  fn := fun _ => true
  pn := []
  xe := fun e s' => wpAny (model P w) (A.deeper (envOfC qual scope s.heap.objs.size f cd)) (leaving (envOfC qual scope s.heap.objs.size f cd) e) (fun _ s'' => CX outer H s E e s'') (fun e' s'' => CX outer H s E e' s'') s'

theorem cell_has {sc : Scope} {n : Nat} {x : Str} (h : sc.names.lookup x = some .cell) : ∃ c, (cellsFrom n sc.names []).lookup x = some c := by
  have q := PySem.W.cellsFrom_some sc.names n [] (.inl h)
  exact Option.isSome_iff_exists.mp q

theorem inv_start {CX : CXT} {P : Program} {w : World} {K : PySem.W.Frag} {mg : Str → Option Value} {base : Heap} {N ps : List Str} {qual : Str} {scope : Scope} {f : Addr} {cd : Value} {A : Around} {outer : List Env} {s s1 : Shared} {H : Hp} {E : XK} {us : List Value} {vs : List V}
    (S : FnScope N ps scope) (hd : A.handled = none) (e0 : Env0 P w K mg base A outer s H) (hl : vs.length = ps.length) (r : Vals vs us)
    (x : InCallC s s.heap.objs.size (bindL (envOfC qual scope s.heap.objs.size f cd).kindOf (ps.zip us) fun _ => none) (cellsFrom (s.heap.objs.size + 1) scope.names []) (bindC (envOfC qual scope s.heap.objs.size f cd).kindOf (ps.zip us) fun _ => none) s1) :
    Inv (cxOf CX P w K mg base N qual scope f cd A outer s H E) [] (start N vs) H s1 := by
  have hpl : ps.length ≤ N.length := by have := congrArg List.length S.pre; rw [List.length_take] at this; omega
  obtain ⟨h1, tk, rfl, hk⟩ := x.done
  have noA : ∀ b : Addr, b ∉ (cxOf CX P w K mg base N qual scope f cd A outer s H E).ex := fun b z => absurd (show b ∈ ([] : List Addr) from z) (by simp)
  refine ⟨⟨e0.mod, S.kind, rfl, rfl, Nat.le_refl _, fun y z c h1 h2 => ?_, fun y hy => ?_, fun y c _ h => ?_, fun _ => hd, Around.frames_deeper e0.frames, .inr ⟨rfl, rfl⟩, fun b z => absurd z (noA b), e0.bs, e0.bsz, fun b _ _ => noA b, fun b z => absurd z (noA b), e0.funs, e0.frf⟩,
    rfl, e0.bare, Un.kept hk, ⟨_, x.toInCall.ns, fun i y v h1 h2 h3 => ?_⟩, fun y c h => ⟨_, x.cell y c h⟩, e0.hok.fresh (Nat.le_refl _), fun y c h => ?_, fun p hp => absurd (show p ∈ ([] : List (Addr × Obj)) from hp) (by simp), e0.hok.kept hk, ?_⟩
  · exact name_of_addr x.apart (PySem.mem_of_lookup h1) (PySem.mem_of_lookup h2)
  · have hy : scope.names.lookup y = some .cell ∨ scope.names.lookup y = some .free := hy
    rcases hy with hy | hy
    · exact cell_has hy
    · exact absurd rfl (S.nofree _ (PySem.mem_of_lookup hy))
  · exact Nat.le_of_lt (x.above y c (PySem.mem_of_lookup h))
  · have hi : i < vs.length := by
      unfold start at h2
      by_cases hi : i < vs.length
      · exact hi
      · rw [List.getElem?_append_right (by simpa using hi)] at h2
        rw [List.getElem?_replicate] at h2
        split at h2 <;> cases h2
    have ha : vs[i]? = some v := by
      unfold start at h2
      rw [List.getElem?_append_left (by simpa using hi), List.getElem?_map] at h2
      cases e : vs[i]? with
      | none => rw [e] at h2; cases h2
      | some a => rw [e] at h2; cases h2; rfl
    obtain ⟨u, hu, rv⟩ := r.get ha
    have hp : ps[i]? = some y := by
      rw [← S.pre, List.getElem?_take_of_lt (by omega)]; exact h1
    have ndP : ps.Nodup := by rw [← S.pre]; exact S.nd.sublist (List.take_sublist _ _)
    refine ⟨u, rv, ?_⟩
    rcases S.par y (List.mem_of_getElem? hp) with k | k
    · exact .inl ⟨k, bindL_get ndP hp hu k⟩
    · obtain ⟨c, e⟩ := cell_has (n := s.heap.objs.size + 1) k
      refine .inr ⟨.inl k, c, e, ?_⟩
      have q := x.cell y c e
      rw [bindC_get ndP hp hu (by show scope.names.lookup y ≠ _; rw [k]; decide)] at q
      exact q
  · exact e0.hok.fresh (Nat.le_of_lt (x.above y c (PySem.mem_of_lookup h)))
  · unfold start
    show _ = N.length
    rw [List.length_append, List.length_map, List.length_replicate]
    omega

/-- THE RULE: a def (or a method) of the text, by its body. The body's reading t is chosen for each entry; it is run at the parameters' values -/
theorem fn_of {CX : CXT} {P : Program} {w : World} {K : PySem.W.Frag} {mg : Str → Option Value} {base : Heap} {k : Nat} {f : Addr} {name qual : Str} {params : Arguments} {body : List Stmt} {scope : Scope} {dV kV doc pm cdv ct oc : Value} {an od : Option Addr}
    {osl : Array (Option Value)} {N ps : List Str} {sp : Sp} (lk : K.lookup f = some ⟨oc, od, .func (PySem.W.fnOf name qual params body scope dV kV doc pm an cdv ct), osl⟩) (hcd : PySem.W.codeIn K cdv qual = true) (S : FnScope N ps scope)
    (len : ∀ vs H Q E, sp vs H Q E → vs.length = ps.length)
    (hbody : ∀ (A : Around) (outer : List Env) (s : Shared) (H : Hp) (vs : List V) (Q : VK) (E : XK), Room k (A.deeper (envOfC qual scope s.heap.objs.size f cdv)) → sp vs H Q E →
      ∃ t, PSs (cxOf CX P w K mg base N qual scope f cdv A outer s H E) body t ∧ t { nx := fun _ H' => Q .non H', rt := Q } (start N vs) H) :
    FnOk P w K mg base CX (k + 1) f (PySem.W.fnOf name qual params body scope dV kV doc pm an cdv ct) ps sp := by
  refine ⟨len, fun A outer s H args us vs Q E hr e0 hb r hsp => ?_⟩
  have hl := len _ _ _ _ hsp
  have KX : K.In s.heap := e0.mod.kin.keeps fun b o e => (e0.bs b o e).1
  have lim : s.heap.NoLimit := e0.mod.nolimit.keeps fun b o e => (e0.bs b o e).1
  have hkind : ∀ y ∈ ps.zip us, scope.names.lookup y.1 = some .local ∨ (scope.names.lookup y.1 = some .cell ∧ ((cellsFrom (s.heap.objs.size + 1) scope.names []).lookup y.1).isSome = true) := fun ⟨n, v⟩ hy => by
    rcases S.par n (List.of_mem_zip hy).1 with q | q
    · exact .inl q
    · exact .inr ⟨q, PySem.W.cellsFrom_some _ _ _ (.inl q)⟩
  refine codeAny_call_function hr.depth (KX _ _ lk) rfl S.co S.gen rfl (PySem.W.codeRec_of KX hcd) (hb _ _ _ _ ?_)
  refine wpAny_newFunctionEnv_cells S.kind hkind fun env he s1 x => ?_
  subst he
  refine ⟨lim.keeps x.toInCall.keep, codeAny_func ?_⟩
  obtain ⟨t, ht, hq⟩ := hbody A outer s H vs Q E (hr.deeper _) hsp
  have I : Inv (cxOf CX P w K mg base N qual scope f cdv A outer s H E) [] (start N vs) H s1 := inv_start S hr.hd e0 hl r x
  refine wpAny_mono (ht [] s1 (start N vs) H _ I hq) (fun fl s' hs => ?_) fun e s' hs => hs
  have fin : ∀ {σ' : St} {H' : Hp} {v : V} {u : Value}, Inv (cxOf CX P w K mg base N qual scope f cdv A outer s H E) [] σ' H' s' → RelV v u → Q v H' → CE outer P w H s Q u s' :=
    fun {σ' H' v u} J rv q => ⟨v, H', J.os, J.bare, J.base, J.hok, rv, q⟩
  cases fl with
  | ret u =>
    obtain ⟨v, σ', H', J, rv, q⟩ := hs
    exact fin J rv q
  | next =>
    obtain ⟨σ', H', J, q⟩ := hs
    exact fin (v := V.non) (u := Value.none) J rfl q
  | brk =>
    obtain ⟨_, _, _, q⟩ := hs
    exact False.elim q
  | cont =>
    obtain ⟨_, _, _, q⟩ := hs
    exact False.elim q
end L2

namespace L2
open PySem PySem.Spec PyProof.Rows
section
variable {X : Cx} {x : Str} {p pos : Pos} {e : Expr} {es : List Expr} {t : TA} {id T : String} {r : List V → Hp → VK → Prop}

def tCB (r : List V → Hp → VK → Prop) (t : TA) : TE := fun σ H Q => t σ H fun vs H1 => r vs H1 Q
/-- f(e, ..), f a built-in function -/
theorem pe_callB (hc : CallR X (.builtin id) r) (hg : Gl X x) (hm : X.mg x = none) (hv : bootBuiltins x = some (.builtin id)) (ha : PA X (e :: es) t) (hn : x ≠ "__name__" := by decide) (hdb : (x == ("__debug__" : Str)) = false := by decide)
    (he : starEach (e :: es) X.env = (false, eval e X.env) :: starEach es X.env := by rfl) (hpl : (backTo pos (starEach es X.env)).any (·.1) = false := by rfl) : PE X (.Call (.Name x p) (e :: es) [] pos) (tCB r t) := by
  intro pins s σ H Q I h
  refine wpAny_Call_Name_kw (ld_blt I hg hm hv ?_ hn hdb)
  exact PyProof.Rows.callWith_builtin1 (thn (ha pos pins s σ H _ I h) fun us s1 ⟨vs, H1, I1, r1, q1⟩ => hc pins s1 σ H1 vs us Q I1 r1 q1) he hpl
/-- T(e, ..), T a built-in type -/
theorem pe_callTy (hc : CallR X (.type T) r) (hg : Gl X x) (hm : X.mg x = none) (hv : bootBuiltins x = some (.type T)) (ha : PA X (e :: es) t) (hn : x ≠ "__name__" := by decide) (hdb : (x == ("__debug__" : Str)) = false := by decide)
    (he : starEach (e :: es) X.env = (false, eval e X.env) :: starEach es X.env := by rfl) (hpl : (backTo pos (starEach es X.env)).any (·.1) = false := by rfl) : PE X (.Call (.Name x p) (e :: es) [] pos) (tCB r t) := by
  intro pins s σ H Q I h
  refine wpAny_Call_Name_kw (ld_blt I hg hm hv ?_ hn hdb)
  exact PyProof.Rows.callWith_type1 (thn (ha pos pins s σ H _ I h) fun us s1 ⟨vs, H1, I1, r1, q1⟩ => hc pins s1 σ H1 vs us Q I1 r1 q1) he hpl
/-- T() -/
theorem pe_callTy0 (hc : CallR X (.type T) r) (hg : Gl X x) (hm : X.mg x = none) (hv : bootBuiltins x = some (.type T)) (hn : x ≠ "__name__" := by decide) (hdb : (x == ("__debug__" : Str)) = false := by decide) :
    PE X (.Call (.Name x p) [] [] pos) (tCB r tNil) := by
  intro pins s σ H Q I h
  refine wpAny_Call_Name_kw (ld_blt I hg hm hv ?_ hn hdb)
  exact PyProof.Rows.callWith_type0 (hc pins s σ H [] [] Q I .nil h)
end
end L2

namespace HT
open PySem PyProof.Rows

/-- t < u of tuples of ints -/
def lexLt : List Int → List Int → Bool
  | [], [] => false
  | [], _ :: _ => true
  | _ :: _, [] => false
  | x :: xs, y :: ys => if x = y then lexLt xs ys else decide (x < y)
theorem lexLt_cons (x y : Int) (xs ys : List Int) : lexLt (x :: xs) (y :: ys) = if x = y then lexLt xs ys else decide (x < y) := rfl
theorem lexLt_nil_nil : lexLt [] [] = false := rfl
theorem lexLt_nil_cons (y : Int) (ys : List Int) : lexLt [] (y :: ys) = true := rfl
theorem lexLt_cons_nil (x : Int) (xs : List Int) : lexLt (x :: xs) [] = false := rfl

theorem eqAt_int (A : Around) (s : Shared) (a : Int) (t : Tok) (c : Int) (u : Tok) : ∃ e, SeqAt.EqAt A s (.int a t) (.int c u) e ∧ (e = true ↔ a = c) :=
  ⟨(a == c), SeqAt.EqAt.int_int a t c u, by simp⟩
theorem rcLt_int (A : Around) (s : Shared) (a : Int) (t : Tok) (c : Int) (u : Tok) (prog : Program) (w : World) (E : Value → Shared → Prop) (Q : Value → Shared → Prop) (h : Q (.bool (decide (a < c))) s) :
    wpAny (model prog w) A (richCompare .Lt (.int a t) (.int c u)) Q E s :=
  (PyProof.Rows.lt_int h : wpAny (model prog w) A (compareOp .Lt (.int a t) (.int c u)) Q E s)

section
open PySem.SeqAt
open PySem.AutoSeq1 (wpAny_loadPart')
open PySem.MeetsSeq PySem.MeetsSeq2 PySem.MeetsSeq3

theorem tuple_lt_ints (l b : Addr) (items items2 : Array Value) (n n2 : Nat) (dd dd2 : Option Addr) (sl sl2 : Array (Option Value)) (ns ms : List Int) (hi : IntsAre items.toList ns) (hj : IntsAre items2.toList ms) :
    Meets (Builtin.«tuple.__lt__» ⟨[.ref l, .ref b], []⟩)
      (fun _ R s => s.heap.get? l = some { cls := .type "tuple", dict := dd, data := .seq items n, slots := sl } ∧ s.heap.get? b = some { cls := .type "tuple", dict := dd2, data := .seq items2 n2, slots := sl2 } ∧
        R (.ok (.ret (.bool (lexLt ns ms)))) s) :=
  .of_wp fun prog w A R s h => by
    obtain ⟨hp, g, d, tk, os⟩ := s; obtain ⟨hl, hb, h⟩ := h
    have f2 := AutoSeq1.sub_tuple_tuple
    have z1 : items.size = ns.length := by rw [← hi.length]; simp
    have z2 : items2.size = ms.length := by rw [← hj.length]; simp
    wp_walk using wpAny_loadPart' hl, wpAny_loadPart' hb, wpAny_forIn_list _ (fun rest b s' => b.1 = none ∧ s' = ⟨hp, g, d, tk, os⟩ ∧ ∃ (vs ws : List Value) (ns' ms' : List Int), rest = vs.zip ws ∧
      IntsAre vs ns' ∧ IntsAre ws ms' ∧ ns'.length + items2.size = ms'.length + items.size ∧ R (.ok (.ret (.bool (lexLt ns' ms')))) ⟨hp, g, d, tk, os⟩) _
    case turn =>
      rintro ⟨y, x⟩ rest b s' ⟨hb', rfl, vs, ws, ns', ms', hz, hvi, hwi, hlen, hR⟩
      cases hvi with
      | nil => rw [List.zip_nil_left] at hz; cases hz
      | cons a t hvi' =>
        cases hwi with
        | nil => rw [List.zip_nil_right] at hz; cases hz
        | cons c u hwi' =>
          rw [List.zip_cons_cons] at hz
          injection hz with hyx hrest
          injection hyx with hy hx
          subst hy hx
          rw [lexLt_cons] at hR
          simp only [List.length_cons] at hlen
          obtain ⟨e, he, hiff⟩ := eqAt_int A.in1 ⟨hp, g, d, tk, os⟩ a t c u
          refine wpAny_bind (he prog w _ _ ?_)
          cases e with
          | true =>
            rw [if_pos (hiff.mp rfl)] at hR
            wp_walk
            exact ⟨rfl, rfl, _, _, _, _, hrest, hvi', hwi', by omega, hR⟩
          | false =>
            rw [if_neg (fun q => absurd (hiff.mpr q) Bool.false_ne_true)] at hR
            have hri := rcLt_int A.in1 ⟨hp, g, d, tk, os⟩ a t c u prog w
            wp_walk using hri
            exact ⟨_, rfl, by simpa using hR⟩
    case fin =>
      rintro ⟨b1, b2⟩ s' ⟨hb', rfl, vs, ws, ns', ms', hz, hvi, hwi, hlen, hR⟩
      simp only at hb'
      subst hb'
      have hv : lexLt ns' ms' = decide (items.size < items2.size) := by
        cases hvi with
        | nil =>
          cases hwi with
          | nil =>
            simp only [List.length_nil] at hlen
            rw [lexLt_nil_nil]
            exact (decide_eq_false (by omega)).symm
          | cons c u hw =>
            simp only [List.length_nil, List.length_cons] at hlen
            rw [lexLt_nil_cons]
            exact (decide_eq_true (by omega)).symm
        | cons a t hv =>
          cases hwi with
          | nil =>
            simp only [List.length_nil, List.length_cons] at hlen
            rw [lexLt_cons_nil]
            exact (decide_eq_false (by omega)).symm
          | cons c u hw =>
            rw [List.zip_cons_cons] at hz
            cases hz
      rw [hv] at hR
      wp_walk
      exact ⟨_, rfl, by simpa [Builtin.Tuple.tupleCompareSizes] using hR⟩
    case h =>
      exact ⟨rfl, rfl, items.toList, items2.toList, ns, ms, rfl, hi, hj, by omega, h⟩
end

section
variable {prog : Program} {w : World} {A : Around} {E : Value → Shared → Prop} {s : Shared}

theorem lt_tupInts {l b : Addr} {items items2 : Array Value} {ns ms : List Int} {Q : Value → Shared → Prop} (hl : IsTup s.heap l items) (hb : IsTup s.heap b items2) (hi : IntsAre items.toList ns) (hj : IntsAre items2.toList ms)
    (hu : A.units < cLine) (h : Q (.bool (lexLt ns ms)) s) : wpAny (model prog w) A (compareOp .Lt (.ref l) (.ref b)) Q E s := by
  obtain ⟨⟨cls, dd, data, sl⟩, ho, hc, n, hd⟩ := id hl
  obtain ⟨⟨cls2, dd2, data2, sl2⟩, ho2, hc2, n2, hd2⟩ := id hb
  simp only at hc hd hc2 hd2
  subst hc hd hc2 hd2
  exact richCompare_meets_room (op := .Lt) ⟨_, ho, rfl⟩ ⟨_, ho2, rfl⟩ PySem.F.slot_tuple_lt PySem.F.entry_tuple_lt (PySem.F.args_tuple_lt_2 _ _) (tuple_lt_ints l b items items2 n n2 dd dd2 sl sl2 ns ms hi hj)
    ⟨ho, ho2, show Value.bool (lexLt ns ms) ≠ Value.notImplemented ∧ Q (.bool (lexLt ns ms)) s from ⟨(fun x => nomatch x), h⟩⟩ hu

/-- t + u, t not empty -/
theorem cat_tup {t b : Addr} {vs ws : List Value} {Q : Value → Shared → Prop} (ht : IsTup s.heap t vs.toArray) (hb : IsTup s.heap b ws.toArray) (hv : vs ≠ [])
    (h1 : ws = [] → Q (.ref t) s) (h2 : ws ≠ [] → Q (.ref s.heap.objs.size) { s with heap := s.heap.push { cls := .type "tuple", data := .seq (vs ++ ws).toArray } })
    (hsz : vs.length + ws.length ≤ sizeLine) : wpAny (model prog w) A (binaryOp .Add (.ref t) (.ref b)) Q E s := by
  obtain ⟨⟨cls, dd, data, sl⟩, ho, hc, n, hd⟩ := id ht
  obtain ⟨⟨cls2, dd2, data2, sl2⟩, ho2, hc2, n2, hd2⟩ := id hb
  simp only at hc hd hc2 hd2
  subst hc hd hc2 hd2
  have e : vs.toArray ++ ws.toArray = (vs ++ ws).toArray := by simp
  by_cases hw : ws = []
  · exact concat_meets ⟨_, ho, rfl⟩ ⟨_, ho2, rfl⟩ noFill_tuple_add seq_tuple_add PySem.F.slot_tuple_add PySem.F.entry_tuple_add (PySem.F.args_tuple_add_2 _ _)
      (tuple_addW1 t b vs.toArray ws.toArray n n2 dd dd2 sl sl2 (by simpa using hv) (by simp [hw])) ⟨ho, ho2, h1 hw⟩
  · refine concat_meets ⟨_, ho, rfl⟩ ⟨_, ho2, rfl⟩ noFill_tuple_add seq_tuple_add PySem.F.slot_tuple_add PySem.F.entry_tuple_add (PySem.F.args_tuple_add_2 _ _)
      (tuple_addW2 t b vs.toArray ws.toArray n n2 dd dd2 sl sl2 (by simpa using hv) (by simpa using hw) (by rw [List.size_toArray, List.size_toArray]; exact hsz)) ⟨ho, ho2, ?_⟩
    rw [e]
    exact h2 hw

/-! ### t[a:b], not the whole -/
/-- a slice's bound as a place among n (d where it is left out) -/
def sIx (n d : Nat) : Option Int → Nat
  | none => d
  | some v => if v < 0 then (v + (n : Int)).toNat else min v.toNat n
theorem sIx_none (n d : Nat) : sIx n d none = d := rfl
theorem sIx_nat (n d k : Nat) : sIx n d (some (k : Int)) = min k n := by
  show (if (k : Int) < 0 then ((k : Int) + (n : Int)).toNat else min (k : Int).toNat n) = min k n
  rw [if_neg (by omega), Int.toNat_natCast]
theorem sIx_le (n d : Nat) (hd : d ≤ n) (o : Option Int) : sIx n d o ≤ n := by
  cases o with
  | none => exact hd
  | some v =>
    show (if v < 0 then (v + (n : Int)).toNat else min v.toNat n) ≤ n
    by_cases hv : v < 0
    · rw [if_pos hv]; omega
    · rw [if_neg hv]; exact Nat.min_le_right _ _
theorem clip_eq (v : Int) (n d : Nat) : (if v < 0 then max (v + (n : Int)) 0 else min v (n : Int)) = ((sIx n d (some v) : Nat) : Int) := by
  show (if v < 0 then max (v + (n : Int)) 0 else min v (n : Int)) = (((if v < 0 then (v + (n : Int)).toNat else min v.toNat n) : Nat) : Int)
  by_cases hv : v < 0
  · simp only [if_pos hv]; omega
  · simp only [if_neg hv]; omega
theorem adjust_gen (lo hi : Option Int) (n : Nat) : Builtin.Slice.sliceAdjust lo hi 1 (n : Int) = (((sIx n 0 lo : Nat) : Int), ((sIx n n hi : Nat) : Int)) := by
  have h1 : ¬ ((1 : Int) < 0) := by omega
  unfold Builtin.Slice.sliceAdjust
  simp only [h1, if_false]
  refine Prod.ext ?_ ?_
  · cases lo with
    | none => rfl
    | some v => exact clip_eq v n 0
  · cases hi with
    | none => rfl
    | some v => exact clip_eq v n n
theorem places_gen (i j : Nat) : Builtin.Slice.slicePlaces (i : Int) (j : Int) 1 = j - i := by
  unfold Builtin.Slice.slicePlaces
  have h1 : (1 : Int) > 0 := by omega
  simp only [h1, if_true, Int.ediv_one]
  split <;> omega
theorem slicePart_ {v : Value} {o : Option Int} {Q : Option Int → Shared → Prop} (p : IsPart v o) (h : Q o s) : wpAny (model prog w) A (Builtin.Slice.slicePartIndex v) Q E s := by
  cases p with
  | none => exact slicePart_none h
  | int i t => exact slicePart_int h
theorem sliceApplied_gen {sl : Addr} {vl vu : Value} {lo hi : Option Int} {n : Nat} {Q : Int × Int × Nat → Shared → Prop} (hs : s.heap.IsSliceOf sl vl vu .none) (pl : IsPart vl lo) (pu : IsPart vu hi)
    (h : Q (((sIx n 0 lo : Nat) : Int), 1, sIx n n hi - sIx n 0 lo) s) : wpAny (model prog w) A (Builtin.Slice.sliceApplied (.ref sl) (pure (n : Int))) Q E s := by
  obtain ⟨os, hos, hcs, hds⟩ := id hs
  unfold Builtin.Slice.sliceApplied Builtin.Slice.sliceFields
  refine wpAny_bind (wpAny_bind (wpAny_field hos hds (x := vl) rfl (wpAny_bind (wpAny_field hos hds (x := vu) rfl (wpAny_bind (wpAny_field hos hds (x := .none) rfl (wpAny_pure ?_)))))))
  refine wpAny_bind (slicePart_none ?_)
  show wpAny _ _ (if ((1 : Int) == 0) = true then _ else _) _ _ s
  rw [if_neg (by decide)]
  refine wpAny_bind (slicePart_ pl (wpAny_bind (slicePart_ pu (wpAny_bind (wpAny_pure ?_)))))
  show wpAny _ _ (match Builtin.Slice.sliceAdjust lo hi 1 (n : Int) with | (lo, hi) => pure (lo, (1 : Int), Builtin.Slice.slicePlaces lo hi 1)) _ _ s
  rw [adjust_gen lo hi n]
  show wpAny _ _ (pure (((sIx n 0 lo : Nat) : Int), (1 : Int), Builtin.Slice.slicePlaces ((sIx n 0 lo : Nat) : Int) ((sIx n n hi : Nat) : Int) 1)) _ _ s
  rw [places_gen]
  exact wpAny_pure h
theorem pick_gen (xs : Array Value) (i k : Nat) : ((List.range k).filterMap fun (m : Nat) => xs[((i : Int) + (m : Int) * 1).toNat]?).toArray = ((xs.toList.drop i).take k).toArray := by
  have e : (fun (m : Nat) => xs[((i : Int) + (m : Int) * 1).toNat]?) = fun m => xs[i + m]? := by
    funext m
    have : ((i : Int) + (m : Int) * 1).toNat = i + m := by omega
    rw [this]
  rw [e]
  have := pick_run xs i k
  rw [List.filterMap_map] at this
  have e2 : ((fun x => xs[x]?) ∘ fun x => i + x) = fun m => xs[i + m]? := rfl
  rw [e2] at this
  rw [this]

theorem getItem_tuple_cut {t sl : Addr} {items : Array Value} {vl vu : Value} {lo hi : Option Int} {Q : Value → Shared → Prop} (ht : IsTup s.heap t items) (hs : s.heap.IsSliceOf sl vl vu .none) (pl : IsPart vl lo) (pu : IsPart vu hi)
    (hw : ¬ (sIx items.size 0 lo = 0 ∧ sIx items.size items.size hi = items.size))
    (h : Q (.ref s.heap.objs.size) { s with heap := s.heap.push { cls := .type "tuple", data := .seq ((items.toList.drop (sIx items.size 0 lo)).take (sIx items.size items.size hi - sIx items.size 0 lo)).toArray } })
    (hsz : items.size ≤ sizeLine) : wpAny (model prog w) A (getItem (.ref t) (.ref sl)) Q E s := by
  have htake : sizeOk (.seq ((items.toList.drop (sIx items.size 0 lo)).take (sIx items.size items.size hi - sIx items.size 0 lo)).toArray) := by
    show ((items.toList.drop (sIx items.size 0 lo)).take (sIx items.size items.size hi - sIx items.size 0 lo)).toArray.size ≤ sizeLine
    rw [List.size_toArray, List.length_take, List.length_drop, Array.length_toList]
    omega
  have hj : sIx items.size items.size hi ≤ items.size := sIx_le _ _ (Nat.le_refl _) hi
  obtain ⟨os, hos, hcs, hds⟩ := id hs
  have hTs : s.TypeIs (.ref sl) "slice" := ⟨os, hos, hcs⟩
  unfold getItem
  try with_reducible refine wpAny_holding ?_
  first | refine wpAny_bind (wpAny_pure ?_) | skip
  refine wpAny_bind (wpAny_sequenceKey ht.typeIs (by decide) ?_)
  refine wpAny_bind (wpAny_callSpecial?_slot (name := Str.ofString "__getitem__") ht.typeIs PyProof.Rows.slot_tuple_getitem
    (wpAny_call_entry PyProof.Rows.slot_tuple_getitem ht.typeIs entry_tuple_getitem ?_ (args_tuple_getitem _ _)))
  show wpAny _ _ (Builtin.Tuple.tupleItemsOf (.ref t) >>= _) _ _ s
  refine wpAny_bind (tupleItemsOf_ ht ?_)
  refine wpAny_bind (wpAny_typeOf hTs ?_)
  rw [if_pos (by decide)]
  refine wpAny_bind (sliceApplied_gen hs pl pu ?_)
  have hno : ¬ ((((sIx items.size 0 lo : Nat) : Int) == 0 && (1 : Int) == 1 && (sIx items.size items.size hi - sIx items.size 0 lo) == items.size) = true) := by
    intro q
    rw [Bool.and_eq_true, Bool.and_eq_true] at q
    have q1 : ((sIx items.size 0 lo : Nat) : Int) = 0 := eq_of_beq q.1.1
    have q2 : sIx items.size items.size hi - sIx items.size 0 lo = items.size := eq_of_beq q.2
    exact hw ⟨by omega, by omega⟩
  show wpAny _ _ (if (((sIx items.size 0 lo : Nat) : Int) == 0 && (1 : Int) == 1 && (sIx items.size items.size hi - sIx items.size 0 lo) == items.size) = true then _ else _) _ _ s
  rw [if_neg hno, pick_gen]
  first
    | exact wpAny_bind (m := Builtin.Tuple.tupleExact _) (wpAny_newObj_type (wpAny_pure ⟨_, rfl, wpAny_pure h⟩) htake)
    | exact wpAny_bind (m := Builtin.Tuple.tupleExact _) (wpAny_newObj_type (wpAny_bind (wpAny_pure (wpAny_pure ⟨_, rfl, wpAny_pure h⟩))) htake)
    | exact wpAny_bind (wpAny_bind (m := Builtin.Tuple.tupleExact _) (wpAny_newObj_type (wpAny_pure (wpAny_pure ⟨_, rfl, wpAny_pure h⟩)) htake))
    | exact wpAny_bind (wpAny_bind (m := Builtin.Tuple.tupleExact _) (wpAny_newObj_type (wpAny_pure ⟨_, rfl, wpAny_pure h⟩) htake))
end
end HT

namespace L2
open PySem PySem.Spec PyProof.Rows

/-! ### the parts of a slice -/
abbrev TO := St → Hp → (Option Int → Hp → Prop) → Prop
/-- a slice's part (left out, or an int) -/
def PO (X : Cx) (e : Option Expr) (t : TO) : Prop :=
  ∀ (pins : List (Addr × Obj)) (s : Shared) (σ : St) (H : Hp) (Q : Option Int → Hp → Prop), Inv X pins σ H s → t σ H Q →
    wpAny (model X.prog X.w) X.A (evalPart e X.env) (fun u s' => ∃ o H', Inv X pins σ H' s' ∧ IsPart u o ∧ Q o H') X.xe s
def tNoPart : TO := fun _ H Q => Q none H
def tPart (t : TE) : TO := fun σ H Q => t σ H fun x H1 => ∃ i, x = .int i ∧ Q (some i) H1

theorem intsAre_of {ns : List Int} : ∀ {us : List Value}, Vals (ns.map V.int) us → IntsAre us ns := by
  induction ns with
  | nil => intro us r; rw [List.map_nil] at r; cases r; exact .nil
  | cons n ns ih =>
    intro us r
    rw [List.map_cons] at r
    cases r with
    | cons r1 r2 =>
      obtain ⟨t, e⟩ := r1
      subst e
      exact .cons n t (ih r2)

section
variable {X : Cx} {e : Expr} {te : TE} {lo hi : Option Expr} {tl th : TO} {pos p2 : Pos}

theorem po_none : PO X none tNoPart := by
  intro pins s σ H Q I h
  rw [evalPart_none]
  exact wpAny_pure ⟨none, H, I, .none, h⟩
theorem po_some (h : PE X e te) : PO X (some e) (tPart te) := by
  intro pins s σ H Q I hw
  rw [evalPart_some]
  refine thn (h pins s σ H _ I hw) fun u s1 ⟨x, H1, I1, r1, q1⟩ => ?_
  obtain ⟨i, rfl, q⟩ := q1
  obtain ⟨t, rfl⟩ := r1
  exact ⟨some i, H1, I1, .int i t, q⟩

/-- what a slice of a value is, by values: the slice object stands at sl -/
def SlR (X : Cx) (r : V → Option Int → Option Int → Hp → VK → Prop) : Prop :=
  ∀ (pins : List (Addr × Obj)) (s : Shared) (σ : St) (H : Hp) (x : V) (v vl vu : Value) (lo hi : Option Int) (sl : Addr) (Q : VK), Inv X pins σ H s → RelV x v → s.heap.IsSliceOf sl vl vu .none → IsPart vl lo → IsPart vu hi → r x lo hi H Q →
    ∃ T id, typeLookup (.type T) "__getitem__" = pure (some (.builtin id)) ∧ s.TypeIs v T ∧ wpAny (model X.prog X.w) X.A (getItem v (.ref sl)) (EP X pins σ Q) X.xe s
theorem SlR.or {r r' : V → Option Int → Option Int → Hp → VK → Prop} (h : SlR X r) (h' : SlR X r') : SlR X (fun x lo hi H Q => r x lo hi H Q ∨ r' x lo hi H Q) := by
  intro pins s σ H x v vl vu lo hi sl Q I rx hs pl pu q
  rcases q with q | q
  · exact h pins s σ H x v vl vu lo hi sl Q I rx hs pl pu q
  · exact h' pins s σ H x v vl vu lo hi sl Q I rx hs pl pu q
def tSl (r : V → Option Int → Option Int → Hp → VK → Prop) (te : TE) (tl th : TO) : TE := fun σ H Q => te σ H fun x H1 => tl σ H1 fun l H2 => th σ H2 fun u H3 => r x l u H3 Q
/-- a[lo:hi], any a -/
theorem pe_slice {r : V → Option Int → Option Int → Hp → VK → Prop} (hr : SlR X r) (he : PE X e te) (hl : PO X lo tl) (hu : PO X hi th) : PE X (.Subscript e (.Slice lo hi none p2) pos) (tSl r te tl th) := by
  intro pins s σ H Q I h
  refine Subscript_ (thn (he pins s σ H _ I h) fun v s1 ⟨x, H1, I1, r1, q1⟩ => ?_)
  refine wpAny_Slice (thn (hl pins s1 σ H1 _ I1 q1) fun vl s2 ⟨l, H2, I2, pl, q2⟩ => thn (hu pins s2 σ H2 _ I2 q2) fun vu s3 ⟨u, H3, I3, pu, q3⟩ => ?_)
  rw [evalPart_none]
  refine wpAny_pure ?_
  have I4 : Inv X pins σ H3 { s3 with heap := s3.heap.push { cls := .type "slice", data := .fields #[vl, vu, .none] } } := I3.kept (t' := s3.toks) fun b ob q => Heap.get?_push_of_some _ q
  obtain ⟨T, id, hT, ht, hg⟩ := hr pins { s3 with heap := s3.heap.push { cls := .type "slice", data := .fields #[vl, vu, .none] } } σ H3 x v vl vu l u s3.heap.objs.size Q I4 r1 (Heap.IsSliceOf.new ..) pl pu q3
  show wpAny (model X.prog X.w) X.A (subscriptTail e (.Slice lo hi none p2) v (.ref s3.heap.objs.size)) (EP X pins σ Q) X.xe { s3 with heap := s3.heap.push { cls := .type "slice", data := .fields #[vl, vu, .none] } }
  exact tail_any (ops := [.ref s3.heap.objs.size, v]) ht hT hg (by with_unfolding_all rfl)

/-- the items of xs[lo:hi] -/
def cutV (xs : List V) (lo hi : Option Int) : List V := (xs.drop (HT.sIx xs.length 0 lo)).take (HT.sIx xs.length xs.length hi - HT.sIx xs.length 0 lo)
theorem cutV_length (xs : List V) (lo hi : Option Int) : (cutV xs lo hi).length ≤ xs.length := by
  unfold cutV
  rw [List.length_take, List.length_drop]
  omega
/-- t[lo:hi], not the whole of it (the whole would be t itself) -/
def rSlT (K : PySem.W.Frag) : V → Option Int → Option Int → Hp → VK → Prop := fun x lo hi H Q => ∃ a xs, x = .ref a ∧ SqT K H a xs ∧
  ¬ (HT.sIx xs.length 0 lo = 0 ∧ HT.sIx xs.length xs.length hi = xs.length) ∧ ∀ p, H p = none → Q (.ref p) (upd H p (.tup (cutV xs lo hi)))
theorem sl_tup : SlR X (rSlT X.K) := by
  intro pins s σ H x v vl vu lo hi sl Q I rx hs pl pu h
  obtain ⟨a, xs, rfl, hx, hw, q⟩ := h
  cases rx
  obtain ⟨its, r, ht, hz⟩ := I.tuple hx
  have hlen : its.toArray.size = xs.length := by rw [List.size_toArray]; exact r.length.symm
  refine ⟨"tuple", _, PyProof.Rows.slot_tuple_getitem.lookup, ht.typeIs, ?_⟩
  refine HT.getItem_tuple_cut ht hs pl pu (by rw [hlen]; exact hw) ?_ (by rw [hlen]; exact hz)
  rw [hlen]
  refine ⟨.ref s.heap.objs.size, _, I.laid (t' := s.toks) (o := .tup (cutV xs lo hi)) (fun b ob q => Heap.get?_push_of_some _ q) (Nat.le_refl _) ?_, rfl, q _ (I.hok.fresh (Nat.le_refl _))⟩
  exact ⟨Nat.le_trans (cutV_length xs lo hi) hz, _, (r.drop (HT.sIx xs.length 0 lo)).take (HT.sIx xs.length xs.length hi - HT.sIx xs.length 0 lo), IsTup.new _ _⟩

/-! ### t < u, t + u -/
def rLtT (K : PySem.W.Frag) : R2 := fun x y H Q => ∃ a b ns ms, x = .ref a ∧ y = .ref b ∧ SqT K H a (ns.map V.int) ∧ SqT K H b (ms.map V.int) ∧ Q (.bl (HT.lexLt ns ms)) H
theorem op_ltT (hu : X.A.units < cLine) : OpR X (compareOp .Lt) (rLtT X.K) := by
  intro pins s σ H x y v u Q I rx ry h
  obtain ⟨a, b, ns, ms, rfl, rfl, ha, hb, q⟩ := h
  cases rx
  cases ry
  obtain ⟨its, r1, p1, _⟩ := I.tuple ha
  obtain ⟨its2, r2, p2, _⟩ := I.tuple hb
  have i1 : IntsAre its.toArray.toList ns := intsAre_of r1
  have i2 : IntsAre its2.toArray.toList ms := intsAre_of r2
  exact HT.lt_tupInts p1 p2 i1 i2 hu ⟨.bl (HT.lexLt ns ms), H, I, rfl, q⟩
/-- t + u, t not empty: u empty gives t itself -/
def rCatT (K : PySem.W.Frag) : R2 := fun x y H Q => ∃ a b xs ys, x = .ref a ∧ y = .ref b ∧ SqT K H a xs ∧ SqT K H b ys ∧ xs ≠ [] ∧ xs.length + ys.length ≤ sizeLine ∧
  (ys = [] → Q (.ref a) H) ∧ (ys ≠ [] → ∀ p, H p = none → Q (.ref p) (upd H p (.tup (xs ++ ys))))
theorem Vals.nil_iff {xs : List V} {us : List Value} (r : Vals xs us) : us = [] ↔ xs = [] := by
  cases r with
  | nil => simp
  | cons _ _ => simp
theorem op_catT : OpR X (binaryOp .Add) (rCatT X.K) := by
  intro pins s σ H x y v u Q I rx ry h
  obtain ⟨a, b, xs, ys, rfl, rfl, ha, hb, hx, hz, q1, q2⟩ := h
  cases rx
  cases ry
  obtain ⟨its, r1, p1, _⟩ := I.tuple ha
  obtain ⟨its2, r2, p2, _⟩ := I.tuple hb
  refine HT.cat_tup p1 p2 (fun z => hx (r1.nil_iff.mp z)) (fun z => ⟨.ref a, H, I, rfl, q1 (r2.nil_iff.mp z)⟩) (fun z => ?_) (by rw [← r1.length, ← r2.length]; exact hz)
  refine ⟨.ref s.heap.objs.size, _, I.laid (t' := s.toks) (o := .tup (xs ++ ys)) (fun b ob q => Heap.get?_push_of_some _ q) (Nat.le_refl _) ?_, rfl, q2 (fun w => z (r2.nil_iff.mpr w)) _ (I.hok.fresh (Nat.le_refl _))⟩
  exact ⟨by rw [List.length_append]; exact hz, _, r1.append r2, IsTup.new _ _⟩
/-- tuple(t) -/
theorem call_tupleT : CallR X (.type "tuple") (fun xs H Q => ∃ a ys, xs = [.ref a] ∧ SqT X.K H a ys ∧ Q (.ref a) H) := by
  intro pins s σ H xs us Q I r h
  obtain ⟨a, ys, rfl, ha, q⟩ := h
  obtain ⟨u, rfl, ru⟩ := vals1 r
  cases ru
  obtain ⟨its, _, p1, _⟩ := I.tuple ha
  exact call_tuple_same (items := its.toArray) p1 ⟨.ref a, H, I, rfl, q⟩
end
end L2

namespace L2
open PySem PySem.Spec PyProof.Rows

/-! ### places -/
/-- the place that an index of any sign means -/
def ixN (n : Nat) (i : Int) : Option Nat := if 0 ≤ i then (if i < n then some i.toNat else none) else if -(n : Int) ≤ i then some (i + n).toNat else none
def atI {α : Type} (xs : List α) (i : Int) : Option α := (ixN xs.length i).bind fun j => xs[j]?
theorem ixN_seq {n : Nat} {i : Int} {j : Nat} (h : ixN n i = some j) : seqIndex? i n = some j ∧ j < n ∧ -(n : Int) ≤ i ∧ i < n := by
  unfold ixN at h
  by_cases h0 : 0 ≤ i
  · rw [if_pos h0] at h
    by_cases h1 : i < n
    · rw [if_pos h1] at h
      have e : i.toNat = j := Option.some.inj h
      exact ⟨by rw [seqIndex_of h0 h1, e], by omega, by omega, h1⟩
    · rw [if_neg h1] at h; cases h
  · rw [if_neg h0] at h
    by_cases h1 : -(n : Int) ≤ i
    · rw [if_pos h1] at h
      have e : (i + n).toNat = j := Option.some.inj h
      exact ⟨by rw [seqIndex_neg (by omega) h1, e], by omega, h1, by omega⟩
    · rw [if_neg h1] at h; cases h
theorem atI_get {α : Type} {xs : List α} {i : Int} {v : α} (h : atI xs i = some v) : ∃ j, seqIndex? i xs.length = some j ∧ xs[j]? = some v ∧ j < xs.length ∧ -(xs.length : Int) ≤ i ∧ i < xs.length := by
  unfold atI at h
  cases e : ixN xs.length i with
  | none => rw [e] at h; cases h
  | some j =>
    rw [e] at h
    obtain ⟨h1, h2, h3, h4⟩ := ixN_seq e
    exact ⟨j, h1, h, h2, h3, h4⟩
theorem atI_nat {α : Type} {xs : List α} {j : Nat} {v : α} (h : xs[j]? = some v) : atI xs (j : Int) = some v := by
  have hj : j < xs.length := (List.getElem?_eq_some_iff.mp h).1
  have e : ixN xs.length (j : Int) = some j := by
    unfold ixN
    rw [if_pos (by omega), if_pos (by omega)]; simp
  unfold atI; rw [e]; exact h
theorem atI_last {α : Type} (xs : List α) (v : α) : atI (xs ++ [v]) (-1) = some v := by
  have hl : (xs ++ [v]).length = xs.length + 1 := by simp
  have e : ixN (xs ++ [v]).length (-1) = some xs.length := by
    unfold ixN
    rw [hl, if_neg (by decide), if_pos (by omega)]
    congr 1
    omega
  unfold atI
  rw [e]
  show (xs ++ [v])[xs.length]? = some v
  simp

/-! ### what may be subscripted -/
/-- what stands as an index of a plain subscript -/
def PlainIx (b : Expr) : Prop := ∀ o i, subscripted b false o i = operate [o, i] (getItem o i)
/-- a subscript by values -/
def IxR (X : Cx) (r : R2) : Prop :=
  ∀ (value slice : Expr) (pins : List (Addr × Obj)) (s : Shared) (σ : St) (H : Hp) (x y : V) (v u : Value) (Q : VK), Inv X pins σ H s → RelV x v → RelV y u → r x y H Q →
    subscripted slice false v u = operate [v, u] (getItem v u) → wpAny (model X.prog X.w) X.A (subscriptTail value slice v u) (EP X pins σ Q) X.xe s
/-- a call of a builtin's method by values: the receiver, the arguments -/
def MtR (X : Cx) (id : String) (r : V → List V → Hp → VK → Prop) : Prop :=
  ∀ (pins : List (Addr × Obj)) (s : Shared) (σ : St) (H : Hp) (x : V) (xs : List V) (v : Value) (us : List Value) (Q : VK), Inv X pins σ H s → RelV x v → Vals xs us → r x xs H Q →
    wpAny (model X.prog X.w) X.A (call (.builtin id) (v :: us)) (EP X pins σ Q) X.xe s
section
variable {X : Cx} {a b : Expr} {ta tb : TE} {pos : Pos}
theorem IxR.or {r r' : R2} (h : IxR X r) (h' : IxR X r') : IxR X (fun x y H Q => r x y H Q ∨ r' x y H Q) := by
  intro value slice pins s σ H x y v u Q I rx ry q hs
  rcases q with q | q
  · exact h value slice pins s σ H x y v u Q I rx ry q hs
  · exact h' value slice pins s σ H x y v u Q I rx ry q hs
theorem MtR.or {id : String} {r r' : V → List V → Hp → VK → Prop} (h : MtR X id r) (h' : MtR X id r') : MtR X id (fun x xs H Q => r x xs H Q ∨ r' x xs H Q) := by
  intro pins s σ H x xs v us Q I rx rs q
  rcases q with q | q
  · exact h pins s σ H x xs v us Q I rx rs q
  · exact h' pins s σ H x xs v us Q I rx rs q
/-- a[b] -/
theorem pe_ix {r : R2} (hr : IxR X r) (ha : PE X a ta) (hb : PE X b tb) (hs : PlainIx b) : PE X (.Subscript a b pos) (tOp r ta tb) := by
  intro pins s σ H Q I h
  exact Subscript_ (binT ha hb I h fun v u s2 x y H2 I2 rx ry q => hr a b pins s2 σ H2 x y v u Q I2 rx ry q (hs _ _))

def rIxL (K : PySem.W.Frag) : R2 := fun x y H Q => ∃ p xs i v, x = .ref p ∧ y = .int i ∧ SqL K H p xs ∧ atI xs i = some v ∧ Q v H
def rIxT (K : PySem.W.Frag) : R2 := fun x y H Q => ∃ p xs i v, x = .ref p ∧ y = .int i ∧ SqT K H p xs ∧ atI xs i = some v ∧ Q v H
def rIxS : R2 := fun x y H Q => ∃ z i c, x = .str z ∧ y = .int i ∧ z.length ≤ sizeLine ∧ atI z.cps.toList i = some c ∧ Q (.str ⟨#[c]⟩) H
theorem ix_list : IxR X (rIxL X.K) := by
  intro value slice pins s σ H x y v u Q I rx ry h hs
  obtain ⟨p, xs, i, z, rfl, rfl, hq, he, q⟩ := h
  cases rx
  obtain ⟨t, rfl⟩ := ry
  obtain ⟨its, r, pl, hz⟩ := I.list hq
  obtain ⟨j, h1, h2, h3, h4, h5⟩ := atI_get he
  obtain ⟨w, ew, rw'⟩ := r.get h2
  have hl := r.length
  have hn := line63
  have fin : EP X pins σ Q w s := ⟨z, H, I, rw', q⟩
  by_cases h0 : 0 ≤ i
  · have hj : i.toNat = j := by
      rw [seqIndex_of h0 h5] at h1
      exact Option.some.inj h1
    exact item_listR pl.isList h0 (by omega) (by rw [hj]; simpa using ew) fin hs
  · have hj : (i + (its.toArray.size : Int)).toNat = j := by
      rw [seqIndex_neg (by omega) h4] at h1
      rw [List.size_toArray, ← hl]
      exact Option.some.inj h1
    exact subscriptTail_builtinR (x := w) pl.isList.typeIs slot_list_getitem.lookup
      (wpAny_getItem_list_neg (Q := fun r s' => r = w ∧ EP X pins σ Q r s') pl.isList (by omega) (by rw [List.size_toArray] <;> omega) (by omega) (by rw [hj]; simpa using ew) ⟨rfl, fin⟩) hs
theorem ix_tup : IxR X (rIxT X.K) := by
  intro value slice pins s σ H x y v u Q I rx ry h hs
  obtain ⟨p, xs, i, z, rfl, rfl, hq, he, q⟩ := h
  cases rx
  obtain ⟨t, rfl⟩ := ry
  obtain ⟨its, r, pl, hz⟩ := I.tuple hq
  obtain ⟨j, h1, h2, h3, h4, h5⟩ := atI_get he
  obtain ⟨w, ew, rw'⟩ := r.get h2
  have hl := r.length
  have hn := line63
  have fin : EP X pins σ Q w s := ⟨z, H, I, rw', q⟩
  exact subscriptTail_builtinR (x := w) pl.typeIs slot_tuple_getitem.lookup
    (getItem_tuple (j := j) (Q := fun r s' => r = w ∧ EP X pins σ Q r s') pl (by omega) (by omega) (by rw [List.size_toArray, ← hl]; exact h1) (by simpa using ew) ⟨rfl, fin⟩) hs
theorem ix_str : IxR X rIxS := by
  intro value slice pins s σ H x y v u Q I rx ry h hs
  obtain ⟨z, i, c, rfl, rfl, hz, he, q⟩ := h
  obtain ⟨t, rfl⟩ := rx
  obtain ⟨t', rfl⟩ := ry
  obtain ⟨j, h1, h2, h3, h4, h5⟩ := atI_get he
  have hl : z.cps.toList.length = z.length := by simp [Str.length]
  rw [hl] at h1 h4 h5
  have hn := line63
  exact tail_any (typeIs_str s z t) slot_str_getitem.lookup (getItem_str (c := c) (by
    have e1 : decide (i < -(2 ^ 63 : Int)) = false := decide_eq_false (by omega)
    have e2 : decide (i ≥ 2 ^ 63) = false := decide_eq_false (by omega)
    rw [e1, e2, Bool.or_false]) (by rw [h1]; simpa using h2) ⟨.str ⟨#[c]⟩, H, I.tok _, ⟨_, rfl⟩, q⟩) hs
/-- list, tuple or str -/
def rIx (K : PySem.W.Frag) : R2 := fun x y H Q => rIxL K x y H Q ∨ rIxT K x y H Q ∨ rIxS x y H Q
theorem ix_seq : IxR X (rIx X.K) := ix_list.or (ix_tup.or ix_str)

/-! ### xs[i] = v, any sign -/
/-- the list's object behind a store -/
theorem mapSeq_set (its : List Value) (n j : Nat) (u : Value) : Obj.mapSeq (·.setIfInBounds j u) { cls := .type "list", data := .seq its.toArray n } = { cls := .type "list", data := .seq (its.set j u).toArray n } := by
  simp [Obj.mapSeq]
theorem Inv.lst {pins : List (Addr × Obj)} {σ : St} {H : Hp} {s : Shared} {p : Addr} {xs : List V} (I : Inv X pins σ H s) (h : H p = some (.lst xs)) :
    ∃ (its : List Value) (n : Nat), Vals xs its ∧ s.heap.get? p = some { cls := .type "list", data := .seq its.toArray n } ∧ xs.length ≤ sizeLine := by
  obtain ⟨z, its, n, r, e⟩ := I.hok p _ h
  exact ⟨its, n, r, e, z⟩
/-- the list at p is written by an update of its object -/
theorem Inv.lstUpd {pins : List (Addr × Obj)} {σ : St} {H : Hp} {s : Shared} {p : Addr} {xs ys : List V} {its its' : List Value} {n n' : Nat} {f : Obj → Obj} (I : Inv X pins σ H s) (h : H p = some (.lst xs))
    (ho : s.heap.get? p = some { cls := .type "list", data := .seq its.toArray n }) (hf : f { cls := .type "list", data := .seq its.toArray n } = { cls := .type "list", data := .seq its'.toArray n' }) (r : Vals ys its') (hz : ys.length ≤ sizeLine) (t : Nat) :
    Inv X pins σ (upd H p (.lst ys)) { s with heap := s.heap.update p f, toks := t } := by
  have e : (s.heap.update p f).get? p = some { cls := .type "list", data := .seq its'.toArray n' } := by
    rw [Heap.get?_update_self f ho (by rw [hf] <;> rfl), hf]
  refine I.write (x := p) (e := p) (by rw [h]; trivial) (.inl rfl) (fun b u hb q => (Heap.get?_update_other _ _ (Ne.symm hb)).trans q) ⟨_, e⟩ ?_
  exact ⟨hz, its', n', r, e⟩
def rSetL : V → V → V → Hp → (Hp → Prop) → Prop := fun o i v H Q => ∃ p xs k j, o = .ref p ∧ i = .int k ∧ H p = some (.lst xs) ∧ ixN xs.length k = some j ∧ Q (upd H p (.lst (xs.set j v)))
theorem set_list : PSet X rSetL := by
  intro pins s σ H o i v ov iv u Q I ro ri rv h
  obtain ⟨p, xs, k, j, rfl, rfl, hp, hj, q⟩ := h
  cases ro
  obtain ⟨t, rfl⟩ := ri
  obtain ⟨its, n, r, ho, hz⟩ := I.lst hp
  obtain ⟨h1, h2, h3, h4⟩ := ixN_seq hj
  have hl := r.length
  have hn := line63
  have I' : Inv X pins σ (upd H p (.lst (xs.set j v))) { s with heap := s.heap.update p (Obj.mapSeq (·.setIfInBounds j u)) } :=
    I.lstUpd hp ho (mapSeq_set its n j u) (r.set rv j) (by rw [List.length_set]; exact hz) s.toks
  by_cases h0 : 0 ≤ k
  · have hk : k.toNat = j := by
      rw [seqIndex_of h0 h4] at h1
      exact Option.some.inj h1
    exact PySem.W.ki_setAt ho h0 (by omega) (by rw [List.size_toArray, ← hl]; exact h4) (by rw [hk]; exact ⟨_, I', q⟩)
  · have hk : (k + (its.toArray.size : Int)).toNat = j := by
      rw [seqIndex_neg (by omega) h3] at h1
      rw [List.size_toArray, ← hl]
      exact Option.some.inj h1
    exact PySem.W.ki_setBack ho (by omega) (by rw [List.size_toArray, ← hl]; exact h3) (by omega) (by rw [hk]; exact ⟨_, I', q⟩)

/-! ### slices -/
theorem slice_bounds (lo hi : Option Int) (n : Nat) : (sliceBounds lo hi none n).1 = ((HT.sIx n 0 lo : Nat) : Int) ∧ (sliceBounds lo hi none n).2.1 = ((HT.sIx n n hi : Nat) : Int) ∧ (sliceBounds lo hi none n).2.2 = 1 := by
  refine ⟨?_, ?_, rfl⟩
  · cases lo with
    | none => simp [sliceBounds, HT.sIx]
    | some i =>
      simp only [sliceBounds, HT.sIx, Option.getD_none, show (1 : Int) > 0 by decide, if_true]
      by_cases h : i < 0
      · simp only [h, if_true] <;> omega
      · simp only [h, if_false] <;> omega
  · cases hi with
    | none => simp [sliceBounds, HT.sIx]
    | some i =>
      simp only [sliceBounds, HT.sIx, Option.getD_none, show (1 : Int) > 0 by decide, if_true]
      by_cases h : i < 0
      · simp only [h, if_true] <;> omega
      · simp only [h, if_false] <;> omega
theorem slicePick_cut (its : List Value) (lo hi : Option Int) : slicePick its.toArray lo hi none = ((its.drop (HT.sIx its.length 0 lo)).take (HT.sIx its.length its.length hi - HT.sIx its.length 0 lo)).toArray := by
  obtain ⟨h1, h2, h3⟩ := slice_bounds lo hi its.toArray.size
  unfold slicePick
  rw [h1, h2, h3]
  simp only [sliceRange_one, pick_run, List.size_toArray] <;> rfl
/-- xs[lo:hi] of a list: a new list -/
def rSlL (K : PySem.W.Frag) : V → Option Int → Option Int → Hp → VK → Prop := fun x lo hi H Q => ∃ a xs, x = .ref a ∧ SqL K H a xs ∧ ∀ p, H p = none → Q (.ref p) (upd H p (.lst (cutV xs lo hi)))
theorem sl_list : SlR X (rSlL X.K) := by
  intro pins s σ H x v vl vu lo hi sl Q I rx hs pl pu h
  obtain ⟨a, xs, rfl, hx, q⟩ := h
  cases rx
  obtain ⟨its, r, ht, hz⟩ := I.list hx
  have hlen := r.length
  refine ⟨"list", _, slot_list_getitem.lookup, ht.isList.typeIs, ?_⟩
  refine wpAny_getItem_list_slice ht.isList hs pl pu .none (by simp) ?_ (by rw [List.size_toArray] <;> omega)
  rw [slicePick_cut, ← hlen]
  refine ⟨.ref s.heap.objs.size, _, I.laid (t' := s.toks) (o := .lst (cutV xs lo hi)) (fun b ob q => Heap.get?_push_of_some _ q) (Nat.le_refl _) ?_, rfl, q _ (I.hok.fresh (Nat.le_refl _))⟩
  exact ⟨Nat.le_trans (cutV_length xs lo hi) hz, _, 0, (r.drop (HT.sIx xs.length 0 lo)).take (HT.sIx xs.length xs.length hi - HT.sIx xs.length 0 lo), Heap.get?_push_size _ rfl⟩

/-! ### in, not in: flat items -/
def flatV : V → Bool
  | .non => true
  | .bl _ => true
  | .int _ => true
  | .str _ => true
  | _ => false
/-- == of flat values -/
def eqV : V → V → Bool
  | .non, .non => true
  | .bl a, .bl b => a == b
  | .bl a, .int b => (if a then 1 else 0) == b
  | .int a, .bl b => a == (if b then 1 else 0)
  | .int a, .int b => a == b
  | .str a, .str b => a == b
  | _, _ => false
theorem eqAt_V {A : Around} {s : Shared} {y x : V} {u v : Value} (ry : RelV y u) (rx : RelV x v) (fy : flatV y = true) (fx : flatV x = true) : SeqAt.EqAt A s u v (eqV y x) := by
  cases y with
  | non =>
    cases ry
    cases x with
    | non => cases rx; exact SeqAt.EqAt.same _
    | bl b => cases rx; exact SeqAt.EqAt.none_bool b
    | int b => obtain ⟨t, rfl⟩ := rx; exact SeqAt.EqAt.none_int b t
    | str b => obtain ⟨t, rfl⟩ := rx; exact SeqAt.EqAt.none_str b t
    | _ => exact absurd (show false = true from fx) Bool.false_ne_true
  | bl a =>
    cases ry
    cases x with
    | non => cases rx; exact SeqAt.EqAt.bool_none a
    | bl b => cases rx; exact SeqAt.EqAt.bool_bool a b
    | int b => obtain ⟨t, rfl⟩ := rx; exact SeqAt.EqAt.bool_int a b t
    | str b => obtain ⟨t, rfl⟩ := rx; exact SeqAt.EqAt.bool_str a b t
    | _ => exact absurd (show false = true from fx) Bool.false_ne_true
  | int a =>
    obtain ⟨t', rfl⟩ := ry
    cases x with
    | non => cases rx; exact SeqAt.EqAt.int_none a t'
    | bl b => cases rx; exact SeqAt.EqAt.int_bool a t' b
    | int b => obtain ⟨t, rfl⟩ := rx; exact SeqAt.EqAt.int_int a t' b t
    | str b => obtain ⟨t, rfl⟩ := rx; exact SeqAt.EqAt.int_str a t' b t
    | _ => exact absurd (show false = true from fx) Bool.false_ne_true
  | str a =>
    obtain ⟨t', rfl⟩ := ry
    cases x with
    | non => cases rx; exact SeqAt.EqAt.str_none a t'
    | bl b => cases rx; exact SeqAt.EqAt.str_bool a t' b
    | int b => obtain ⟨t, rfl⟩ := rx; exact SeqAt.EqAt.str_int a t' b t
    | str b => obtain ⟨t, rfl⟩ := rx; exact SeqAt.EqAt.str_str a t' b t
    | _ => exact absurd (show false = true from fx) Bool.false_ne_true
  | _ => exact absurd (show false = true from fy) Bool.false_ne_true
/-- the items' answers, read off the values (a value's own answer does not lean on its token) -/
def eqU (x : V) (u : Value) : Bool := match u with
  | .none => eqV .non x
  | .bool b => eqV (.bl b) x
  | .int i _ => eqV (.int i) x
  | .str z _ => eqV (.str z) x
  | _ => false
theorem eqU_of {x y : V} {u : Value} (r : RelV y u) (f : flatV y = true) : eqU x u = eqV y x := by
  cases y with
  | non => cases r; rfl
  | bl b => cases r; rfl
  | int i => obtain ⟨t, rfl⟩ := r; rfl
  | str z => obtain ⟨t, rfl⟩ := r; rfl
  | _ => exact absurd (show false = true from f) Bool.false_ne_true
theorem any_eqU {x : V} : ∀ {xs : List V} {us : List Value}, Vals xs us → xs.all flatV = true → us.any (eqU x) = xs.any fun y => eqV y x
  | _, _, .nil, _ => rfl
  | y :: xs, u :: us, .cons r t, f => by
    rw [List.all_cons, Bool.and_eq_true] at f
    rw [List.any_cons, List.any_cons, eqU_of r f.1, any_eqU t f.2]
theorem mem_eqAt {A : Around} {s : Shared} {x : V} {v : Value} (rx : RelV x v) (fx : flatV x = true) : ∀ {xs : List V} {us : List Value}, Vals xs us → xs.all flatV = true → ∀ u ∈ us, SeqAt.EqAt A s u v (eqU x u)
  | _, _, .nil, _ => fun u hu => by cases hu
  | y :: xs, u :: us, .cons r t, f => fun u' hu => by
    rw [List.all_cons, Bool.and_eq_true] at f
    rcases List.mem_cons.mp hu with rfl | hu
    · rw [eqU_of r f.1]; exact eqAt_V r rx f.1 fx
    · exact mem_eqAt rx fx t f.2 u' hu
def inV (x : V) (xs : List V) : Bool := xs.any fun y => eqV y x
/-- x in a list or tuple of flat items -/
def rIn (K : PySem.W.Frag) (neg : Bool) : R2 := fun x y H Q => ∃ p xs, y = .ref p ∧ (SqL K H p xs ∨ SqT K H p xs) ∧ flatV x = true ∧ xs.all flatV = true ∧ Q (.bl (if neg then !inV x xs else inV x xs)) H
theorem op_in_seq : OpR X (compareOp .In) (rIn X.K false) := by
  intro pins s σ H x y v u Q I rx ry h
  obtain ⟨p, xs, rfl, hq, fx, fs, q⟩ := h
  cases ry
  rcases hq with hq | hq
  · obtain ⟨its, r, pl, hz⟩ := I.list hq
    refine SeqAt.in_listAt (eqU x) pl.isList (fun w hw => mem_eqAt rx fx r fs w (by simpa using hw)) ⟨.bl _, H, I, rfl, ?_⟩
    rw [show its.toArray.any (eqU x) = its.any (eqU x) by simp, any_eqU r fs]
    exact q
  · obtain ⟨its, r, pl, hz⟩ := I.tuple hq
    refine SeqAt.in_tupleAt (eqU x) pl (fun w hw => mem_eqAt rx fx r fs w (by simpa using hw)) ⟨.bl _, H, I, rfl, ?_⟩
    rw [show its.toArray.any (eqU x) = its.any (eqU x) by simp, any_eqU r fs]
    exact q
theorem op_notIn_seq : OpR X (compareOp .NotIn) (rIn X.K true) := by
  intro pins s σ H x y v u Q I rx ry h
  obtain ⟨p, xs, rfl, hq, fx, fs, q⟩ := h
  cases ry
  rcases hq with hq | hq
  · obtain ⟨its, r, pl, hz⟩ := I.list hq
    refine SeqAt.notIn_listAt (eqU x) pl.isList (fun w hw => mem_eqAt rx fx r fs w (by simpa using hw)) ⟨.bl _, H, I, rfl, ?_⟩
    rw [show its.toArray.any (eqU x) = its.any (eqU x) by simp, any_eqU r fs]
    exact q
  · obtain ⟨its, r, pl, hz⟩ := I.tuple hq
    refine SeqAt.notIn_tupleAt (eqU x) pl (fun w hw => mem_eqAt rx fx r fs w (by simpa using hw)) ⟨.bl _, H, I, rfl, ?_⟩
    rw [show its.toArray.any (eqU x) = its.any (eqU x) by simp, any_eqU r fs]
    exact q
theorem op_notIn_str : OpR X (compareOp .NotIn) (fun x y H Q => ∃ i j, x = .str i ∧ y = .str j ∧ Q (.bl (!(!(Builtin.Str.occurrences j i 0 j.length 1).isEmpty))) H) := by
  intro pins s σ H x y v u Q I rx ry h
  obtain ⟨i, j, rfl, rfl, q⟩ := h
  obtain ⟨t, rfl⟩ := rx
  obtain ⟨t', rfl⟩ := ry
  exact notIn_str ⟨.bl _, H, I, rfl, q⟩

/-! ### len, list(x), tuple(x) of any list or tuple that is read -/
theorem call_len_seq : CallR X (.builtin "len") (fun xs H Q => ∃ p ys, xs = [.ref p] ∧ (SqL X.K H p ys ∨ SqT X.K H p ys) ∧ Q (.int ys.length) H) := by
  intro pins s σ H xs us Q I r h
  obtain ⟨p, ys, rfl, hq, q⟩ := h
  obtain ⟨u, rfl, rx⟩ := vals1 r
  cases rx
  have hn := line63
  rcases hq with hq | hq
  · obtain ⟨its, r', pl, hz⟩ := I.list hq
    have hlen := r'.length
    exact Calls.call_len_list pl.isList (by simp only [List.size_toArray] <;> omega) ⟨.int ys.length, H, I.tok _, ⟨s.toks + 1, by rw [List.size_toArray, hlen]⟩, q⟩
  · obtain ⟨its, r', pl, hz⟩ := I.tuple hq
    have hlen := r'.length
    exact len_tuple pl (by simp only [List.size_toArray] <;> omega) ⟨.int ys.length, H, I.tok _, ⟨s.toks + 1, by rw [List.size_toArray, hlen]⟩, q⟩
theorem call_len_str : CallR X (.builtin "len") (fun xs H Q => ∃ z, xs = [.str z] ∧ z.length ≤ sizeLine ∧ Q (.int z.length) H) := by
  intro pins s σ H xs us Q I r h
  obtain ⟨z, rfl, hz, q⟩ := h
  obtain ⟨u, rfl, t, rfl⟩ := vals1 r
  have hn := line63
  exact len_str (by omega) ⟨.int z.length, H, I.tok _, ⟨_, rfl⟩, q⟩
theorem CallR.or {f : Value} {r r' : List V → Hp → VK → Prop} (h : CallR X f r) (h' : CallR X f r') : CallR X f (fun xs H Q => r xs H Q ∨ r' xs H Q) := by
  intro pins s σ H xs us Q I rs q
  rcases q with q | q
  · exact h pins s σ H xs us Q I rs q
  · exact h' pins s σ H xs us Q I rs q
theorem call_list_of : CallR X (.type "list") (fun xs H Q => ∃ p ys, xs = [.ref p] ∧ (SqL X.K H p ys ∨ SqT X.K H p ys) ∧ ∀ l, H l = none → Q (.ref l) (upd H l (.lst ys))) := by
  intro pins s σ H xs us Q I r h
  obtain ⟨p, ys, rfl, hq, q⟩ := h
  obtain ⟨u, rfl, rx⟩ := vals1 r
  cases rx
  have fin : ∀ (its : List Value), Vals ys its → ys.length ≤ sizeLine → ∀ (h' : Heap) (c' : Nat), (∀ b o', s.heap.get? b = some o' → h'.get? b = some o') →
      h'.get? s.heap.objs.size = some { cls := .type "list", dict := none, data := .seq its.toArray c', slots := #[] } → EP X pins σ Q (.ref s.heap.objs.size) { s with heap := h' } := fun its r' hz h' c' kp e =>
    ⟨.ref s.heap.objs.size, _, I.laid (t' := s.toks) kp (Nat.le_refl _) (show ObjOk X.prog X.w _ h' _ (.lst ys) from ⟨hz, its, c', r', e⟩), rfl, q _ (I.hok.fresh (Nat.le_refl _))⟩
  rcases hq with hq | hq
  · obtain ⟨its, r', pl, hz⟩ := I.list hq
    have hlen := r'.length
    obtain ⟨o, ho, hc, n, hd⟩ := pl.isList
    exact call_list_seq p (.inl rfl) ho hc hd (fun h' c' kp e => fin its r' hz h' c' kp e) (by simp only [List.size_toArray] <;> omega)
  · obtain ⟨its, r', pl, hz⟩ := I.tuple hq
    have hlen := r'.length
    obtain ⟨o, ho, hc, n, hd⟩ := pl
    exact call_list_seq p (.inr rfl) ho hc hd (fun h' c' kp e => fin its r' hz h' c' kp e) (by simp only [List.size_toArray] <;> omega)
theorem call_tuple_of : CallR X (.type "tuple") (fun xs H Q => ∃ p ys, xs = [.ref p] ∧ ((SqL X.K H p ys ∧ ∀ l, H l = none → Q (.ref l) (upd H l (.tup ys))) ∨ (SqT X.K H p ys ∧ Q (.ref p) H))) := by
  intro pins s σ H xs us Q I r h
  obtain ⟨p, ys, rfl, h⟩ := h
  obtain ⟨u, rfl, rx⟩ := vals1 r
  cases rx
  rcases h with ⟨hq, q⟩ | ⟨hq, q⟩
  · obtain ⟨its, r', pl, hz⟩ := I.list hq
    have hlen := r'.length
    refine call_tuple_list pl.isList (fun h' kp => ?_) (by simp only [List.size_toArray] <;> omega)
    have I1 : Inv X pins σ H { s with heap := h' } := I.kept (t' := s.toks) kp
    have I2 : Inv X pins σ (upd H h'.objs.size (.tup ys)) { s with heap := h'.push { cls := .type "tuple", data := .seq its.toArray } } :=
      I1.laid (t' := s.toks) (fun b o e => Heap.get?_push_of_some _ e) (Nat.le_refl _) (show ObjOk X.prog X.w _ _ _ (.tup ys) from ⟨hz, its, r', IsTup.new _ _⟩)
    exact ⟨.ref h'.objs.size, _, I2, rfl, q _ (I1.hok.fresh (Nat.le_refl _))⟩
  · obtain ⟨its, r', pl, hz⟩ := I.tuple hq
    exact call_tuple_same pl ⟨.ref p, H, I, rfl, q⟩

/-! ### the call of a builtin's method: o.m(..) -/
/-- the value is of that builtin type -/
def tyV (K : PySem.W.Frag) (T : String) (x : V) (H : Hp) : Prop := match x with
  | .str _ => T = "str"
  | .int _ => T = "int"
  | .ref p => (T = "list" ∧ ∃ xs, SqL K H p xs) ∨ (T = "tuple" ∧ ∃ o, K.lookup p = some o ∧ o.cls = .type "tuple" ∧ o.dict = none) ∨
      (T = "dict" ∧ ((∃ kvs, H p = some (.dK kvs)) ∨ ∃ kvs, H p = some (.dT kvs))) ∨ (T = "set" ∧ ∃ S n, H p = some (.set S n))
  | _ => False
theorem tyV_is {pins : List (Addr × Obj)} {σ : St} {H : Hp} {s : Shared} {T : String} {x : V} {v : Value} (I : Inv X pins σ H s) (r : RelV x v) (ty : tyV X.K T x H) :
    s.TypeIs v T ∧ ∀ a, v = .ref a → ∃ ob, s.heap.get? a = some ob ∧ ob.dict = none := by
  cases x with
  | str z =>
    obtain ⟨t, rfl⟩ := r
    cases (show T = "str" from ty)
    exact ⟨typeIs_str s z t, fun _ e => nomatch e⟩
  | int i =>
    obtain ⟨t, rfl⟩ := r
    cases (show T = "int" from ty)
    exact ⟨typeIs_int s i t, fun _ e => nomatch e⟩
  | ref p =>
    cases r
    rcases ty with ⟨rfl, xs, hq⟩ | ⟨rfl, o, hk, hc, hd⟩ | ⟨rfl, hk⟩ | ⟨rfl, S, n, hk⟩
    · obtain ⟨its, _, pl, _⟩ := I.list hq
      refine ⟨pl.isList.typeIs, fun a e => ?_⟩
      cases e
      obtain ⟨o, n, e, c, hd, _⟩ := pl
      exact ⟨o, e, hd⟩
    · refine ⟨⟨o, I.kIn p o hk, hc⟩, fun a e => ?_⟩
      cases e
      exact ⟨o, I.kIn _ o hk, hd⟩
    · have z : ∃ o, s.heap.get? p = some o ∧ o.ExactDict := by
        rcases hk with ⟨kvs, hk⟩ | ⟨kvs, hk⟩
        · obtain ⟨_, _, _, _, o, _, _, e, ex, _⟩ := I.hok p _ hk
          exact ⟨o, e, ex⟩
        · obtain ⟨_, _, _, _, o, _, _, e, ex, _⟩ := I.hok p _ hk
          exact ⟨o, e, ex⟩
      obtain ⟨o, e, ex⟩ := z
      refine ⟨⟨o, e, ex.1⟩, fun a e2 => ?_⟩
      cases e2
      exact ⟨o, e, ex.2.1⟩
    · obtain ⟨o, _, _, _, e, ex, _⟩ := I.hok p _ hk
      refine ⟨⟨o, e, ex.1⟩, fun a e2 => ?_⟩
      cases e2
      exact ⟨o, e, ex.2.1⟩
  | _ => exact False.elim ty
def tBM0 (K : PySem.W.Frag) (T : String) (r : V → List V → Hp → VK → Prop) (to : TE) : TE := fun σ H Q => to σ H fun x H1 => tyV K T x H1 ∧ r x [] H1 Q
def tBM (K : PySem.W.Frag) (T : String) (r : V → List V → Hp → VK → Prop) (to : TE) (t : TA) : TE := fun σ H Q => to σ H fun x H1 => tyV K T x H1 ∧ t σ H1 fun xs H2 => r x xs H2 Q
variable {o e : Expr} {es : List Expr} {to : TE} {t : TA} {name : Str} {apos cpos : Pos} {T id : String} {r : V → List V → Hp → VK → Prop}
theorem pe_bm0 (pa : PlainAttrs T) (slot : Slot T name id) (hty : typeOf (.builtin id) = pure (.type "method_descriptor")) (hm : MtR X id r) (ho : PE X o to)
    (hbase : attributeBase o name X.env (eval o X.env) = eval o X.env := by rfl) (hline : (apos.endLine == cpos.line) = true := by rfl) : PE X (.Call (.Attribute o name apos) [] [] cpos) (tBM0 X.K T r to) := by
  intro pins s σ H Q I h
  refine wpAny_Call_method0_late hbase hline (thn (ho pins s σ H _ I h) fun v s1 ⟨x, H1, I1, r1, ty, q1⟩ => ?_)
  obtain ⟨h1, h2⟩ := tyV_is I1 r1 ty
  exact ⟨T, id, pa, slot, hty, h1, h2, Calls.callWith_builtin rfl (PySem.evalArgs_none (hm pins s1 σ H1 x [] v [] Q I1 r1 .nil q1))⟩
theorem pe_bm (pa : PlainAttrs T) (slot : Slot T name id) (hty : typeOf (.builtin id) = pure (.type "method_descriptor")) (hm : MtR X id r) (ho : PE X o to) (ha : PA X (e :: es) t)
    (hbase : attributeBase o name X.env (eval o X.env) = eval o X.env := by rfl)
    (hfew : ((backTo cpos (starEach (e :: es) X.env)).all (fun x => !x.1) && (backToKw cpos (keywordEach [] X.env)).all (fun x => x.1.isSome)
      && decide ((e :: es).length + ([] : List Keyword).length + (if ([] : List Keyword).isEmpty then 0 else 1) < 30)) = true := by rfl)
    (hline : (apos.endLine == cpos.line) = true := by rfl) (hs : starEach (e :: es) X.env = (false, eval e X.env) :: starEach es X.env := by rfl) (hplain : (backTo cpos (starEach es X.env)).any (·.1) = false := by rfl) :
    PE X (.Call (.Attribute o name apos) (e :: es) [] cpos) (tBM X.K T r to t) := by
  intro pins s σ H Q I h
  refine wpAny_Call_method_late hbase hfew hline rfl (thn (ho pins s σ H _ I h) fun v s1 ⟨x, H1, I1, r1, ty, q1⟩ => ?_)
  obtain ⟨h1, h2⟩ := tyV_is I1 r1 ty
  refine ⟨T, id, pa, slot, hty, h1, h2, ?_⟩
  have hA := ha cpos pins s1 σ H1 _ I1 q1
  rw [hs] at hA ⊢
  refine Calls.callWith_builtin (by show (false || (backTo cpos (starEach es X.env)).any (·.1)) = false; rw [hplain] <;> rfl) (Calls.evalArgs_plain ?_)
  exact thn hA fun us s2 ⟨vs, H2, I2, r2, q2⟩ => hm pins s2 σ H2 x vs v us Q I2 r1 r2 q2
/- xs.append(e), list.index on a module's tuple .. are MtR facts of 06m -/
end
end L2

namespace L2
open PySem PySem.Spec PyProof.Rows

def MtM (X : Cx) (id : String) (r : V → List V → Hp → VK → Prop) : Prop :=
  ∀ (pins : List (Addr × Obj)) (s : Shared) (σ : St) (H : Hp) (x : V) (xs : List V) (v : Value) (us : List Value) (Q : VK), Inv X pins σ H s → RelV x v → Vals xs us → r x xs H Q →
    wpAny (model X.prog X.w) X.A (call (.builtin id) (v :: us)) (EP X pins σ Q) X.xe s

/-! ### lists of values -/
theorem Vals.one : ∀ {x : V} {us : List Value}, Vals [x] us → ∃ u, us = [u] ∧ RelV x u
  | _, _, .cons r .nil => ⟨_, rfl, r⟩
theorem Vals.two : ∀ {x y : V} {us : List Value}, Vals [x, y] us → ∃ u v, us = [u, v] ∧ RelV x u ∧ RelV y v
  | _, _, _, .cons r (.cons q .nil) => ⟨_, _, rfl, r, q⟩
theorem Vals.zero : ∀ {us : List Value}, Vals [] us → us = []
  | _, .nil => rfl
theorem Vals.dropLast {xs : List V} {us : List Value} (h : Vals xs us) : Vals xs.dropLast us.dropLast := by
  induction h with
  | nil => exact .nil
  | cons r t ih =>
    cases t with
    | nil => exact .nil
    | cons q t' => exact .cons r ih
theorem Vals.eraseIdx : ∀ {xs : List V} {us : List Value} (i : Nat), Vals xs us → Vals (xs.eraseIdx i) (us.eraseIdx i)
  | _, _, _, .nil => .nil
  | _, _, 0, .cons _ t => t
  | _, _, i + 1, .cons r t => .cons r (Vals.eraseIdx i t)
theorem Vals.reverse {xs : List V} {us : List Value} (h : Vals xs us) : Vals xs.reverse us.reverse := by
  induction h with
  | nil => exact .nil
  | cons r t ih => rw [List.reverse_cons, List.reverse_cons]; exact Vals.append ih (.cons r .nil)
theorem Vals.rep {xs : List V} {us : List Value} (h : Vals xs us) : ∀ k : Nat, Vals (List.replicate k xs).flatten (List.replicate k us).flatten
  | 0 => .nil
  | k + 1 => by
    rw [List.replicate_succ, List.replicate_succ, List.flatten_cons, List.flatten_cons]
    exact Vals.append h (Vals.rep h k)
theorem erase_last {α : Type} (l : List α) : l.eraseIdx (l.length - 1) = l.dropLast := by
  induction l with
  | nil => rfl
  | cons a r ih =>
    cases r with
    | nil => rfl
    | cons b r =>
      have e : (a :: b :: r).length - 1 = ((b :: r).length - 1) + 1 := by
        have h1 : (a :: b :: r).length = r.length + 2 := rfl
        have h2 : (b :: r).length = r.length + 1 := rfl
        omega
      rw [e, List.eraseIdx_cons_succ, ih]
      all_goals rfl
theorem len_erase {α : Type} : ∀ (l : List α) (i : Nat), (l.eraseIdx i).length ≤ l.length
  | [], _ => Nat.le_refl _
  | _ :: _, 0 => Nat.le_succ _
  | _ :: r, i + 1 => Nat.succ_le_succ (len_erase r i)
theorem foldl_rep (its : List Value) : ∀ (k : Nat) (acc : List Value),
    List.foldl (fun x1 x2 => x1 ++ x2) acc.toArray (List.replicate k its.toArray) = (acc ++ (List.replicate k its).flatten).toArray
  | 0, acc => by simp
  | k + 1, acc => by
    have e : acc.toArray ++ its.toArray = (acc ++ its).toArray := by simp
    have e2 : (acc ++ its) ++ (List.replicate k its).flatten = acc ++ (List.replicate (k + 1) its).flatten := by
      rw [List.replicate_succ, List.flatten_cons, List.append_assoc]
    rw [← e2, ← foldl_rep its k (acc ++ its), ← e, List.replicate_succ, List.foldl_cons]

section
variable {X : Cx} {pins : List (Addr × Obj)} {σ : St} {H : Hp} {s : Shared} {l b : Addr} {xs ys zs : List V}

/-! ### the two steps: a tracked list is rewritten, a new list is laid -/
theorem Inv.lset {its its' : List Value} {n : Nat} {f : Array Value → Array Value} {t' : Nat} (I : Inv X pins σ H s) (hH : H l = some (.lst xs))
    (e : s.heap.get? l = some { cls := .type "list", data := .seq its.toArray n }) (hf : f its.toArray = its'.toArray) (hv : Vals ys its') (hz : ys.length ≤ sizeLine) :
    Inv X pins σ (upd H l (.lst ys)) { s with heap := s.heap.update l (Obj.mapSeq f), toks := t' } := by
  have q := PySem.IsL.update e f
  rw [hf] at q
  refine I.write (x := l) (e := l) (by rw [hH]; exact trivial) (.inl rfl) (fun b' u hb hu => (Heap.get?_update_other s.heap (Obj.mapSeq f) (Ne.symm hb)).trans hu) ⟨_, q⟩ ?_
  exact ⟨hz, its', _, hv, q⟩
theorem Inv.lnew {its : List Value} {t' : Nat} (I : Inv X pins σ H s) (hv : Vals ys its) (hz : ys.length ≤ sizeLine) :
    Inv X pins σ (upd H s.heap.objs.size (.lst ys)) { s with heap := s.heap.push { cls := .type "list", data := .seq its.toArray }, toks := t' } :=
  I.laid (fun _ _ q => Heap.get?_push_of_some _ q) (Nat.le_refl _) ⟨hz, its, 0, hv, Heap.get?_push_size _ rfl⟩
theorem Inv.fresh (I : Inv X pins σ H s) : H s.heap.objs.size = none := I.hok.fresh (Nat.le_refl _)
theorem Inv.lstM (I : Inv X pins σ H s) (hH : H l = some (.lst xs)) : xs.length ≤ sizeLine ∧ ∃ (its : List Value) (n : Nat), Vals xs its ∧ xs.length = its.length ∧ s.heap.get? l = some { cls := .type "list", data := .seq its.toArray n } := by
  obtain ⟨z, its, n, r, e⟩ := I.hok l _ hH
  exact ⟨z, its, n, r, r.length, e⟩

theorem notLongL {n : Nat} (h : n ≤ sizeLine) : Builtin.List.listTooLong n = false := by
  unfold Builtin.List.listTooLong
  exact decide_eq_false (by omega)
end

section
variable {X : Cx}

/-! ### methods -/
def rAppend : V → List V → Hp → VK → Prop := fun x vs H Q => ∃ l xs y, x = .ref l ∧ vs = [y] ∧ H l = some (.lst xs) ∧ xs.length < sizeLine ∧ Q .non (upd H l (.lst (xs ++ [y])))
theorem mt_append : MtM X "list.append" rAppend := by
  intro pins s σ H x vs v us Q I rx rv h
  obtain ⟨l, xs, y, rfl, rfl, hH, hz, q⟩ := h
  cases rx
  obtain ⟨u, rfl, ru⟩ := rv.one
  obtain ⟨z, its, n, r, hl, e⟩ := I.lstM hH
  refine call_meets F.slot_list_append ⟨_, e, rfl⟩ F.entry_list_append (F.args_list_append_2 _ _) (PySem.list_append l its.toArray n u (by rw [List.size_toArray]; omega)) ⟨e, ?_⟩
  refine ⟨.non, _, I.lset (its' := its ++ [u]) hH e (by simp) (r.append (.cons ru .nil)) ?_, rfl, q⟩
  rw [List.length_append, List.length_singleton]
  omega

def rExtend : V → List V → Hp → VK → Prop := fun x vs H Q => ∃ l b xs zs, x = .ref l ∧ vs = [.ref b] ∧ H l = some (.lst xs) ∧ H b = some (.lst zs) ∧ xs.length + zs.length ≤ sizeLine ∧ Q .non (upd H l (.lst (xs ++ zs)))
theorem mt_extend : MtM X "list.extend" rExtend := by
  intro pins s σ H x vs v us Q I rx rv h
  obtain ⟨l, b, xs, zs, rfl, rfl, hH, hB, hz, q⟩ := h
  cases rx
  obtain ⟨u, rfl, ru⟩ := rv.one
  cases ru
  obtain ⟨z, its, n, r, hl, e⟩ := I.lstM hH
  obtain ⟨z2, its2, n2, r2, hl2, e2⟩ := I.lstM hB
  have hsz : its.toArray.size + its2.toArray.size ≤ sizeLine := by rw [List.size_toArray, List.size_toArray]; omega
  have hlong : ¬ (!its.toArray.isEmpty && Builtin.List.listTooLong (its.toArray.size + its2.toArray.size)) = true := by
    rw [notLongL hsz, Bool.and_false]
    exact Bool.false_ne_true
  refine call_meets F.slot_list_extend ⟨_, e, rfl⟩ F.entry_list_extend (F.args_list_extend_2 _ _)
    (AutoSeq1.list_extend_list_list_0 l its.toArray n b its2.toArray n2 hlong (by rw [List.size_toArray]; omega) (by omega)) ⟨e, e2, ?_⟩
  refine ⟨.non, _, I.lset (its' := its ++ its2) hH e (by simp) (r.append r2) ?_, rfl, q⟩
  rw [List.length_append]
  omega

def rPop : V → List V → Hp → VK → Prop := fun x vs H Q => ∃ l xs y, x = .ref l ∧ vs = [] ∧ H l = some (.lst xs) ∧ xs[xs.length - 1]? = some y ∧ Q y (upd H l (.lst xs.dropLast))
theorem mt_pop : MtM X "list.pop" rPop := by
  intro pins s σ H x vs v us Q I rx rv h
  obtain ⟨l, xs, y, rfl, rfl, hH, hy, q⟩ := h
  cases rx
  have hus := rv.zero
  subst hus
  obtain ⟨z, its, n, r, hl, e⟩ := I.lstM hH
  obtain ⟨u, hu, ru⟩ := r.get hy
  have hy' : its.toArray[its.toArray.size - 1]? = some u := by
    show its.toArray[its.length - 1]? = some u
    rw [← Array.getElem?_toList, ← hl]
    exact hu
  refine call_meets F.slot_list_pop ⟨_, e, rfl⟩ F.entry_list_pop (F.args_list_pop_1 _) (MeetsSeq.list_pop_last l its.toArray n u hy' (by rw [List.size_toArray]; omega)) ⟨e, ?_⟩
  refine ⟨y, _, I.lset (its' := its.dropLast) hH e ?_ r.dropLast ?_, ru, q⟩
  · show its.toArray.eraseIdxIfInBounds (its.toArray.size - 1) = its.dropLast.toArray
    rw [List.size_toArray, List.eraseIdxIfInBounds_toArray, erase_last]
  · rw [List.length_dropLast]
    omega

def rPopAt : V → List V → Hp → VK → Prop := fun x vs H Q => ∃ l xs i k y, x = .ref l ∧ vs = [.int i] ∧ H l = some (.lst xs) ∧ -(2 ^ 63) ≤ i ∧ i < 2 ^ 63 ∧ seqIndex? i xs.length = some k ∧ xs[k]? = some y ∧ Q y (upd H l (.lst (xs.eraseIdx k)))
theorem mt_popAt : MtM X "list.pop" rPopAt := by
  intro pins s σ H x vs v us Q I rx rv h
  obtain ⟨l, xs, i, k, y, rfl, rfl, hH, h1, h2, hk, hy, q⟩ := h
  cases rx
  obtain ⟨u, rfl, ru⟩ := rv.one
  obtain ⟨t, rfl⟩ := ru
  obtain ⟨z, its, n, r, hl, e⟩ := I.lstM hH
  obtain ⟨w, hw, rw'⟩ := r.get hy
  refine call_meets F.slot_list_pop ⟨_, e, rfl⟩ F.entry_list_pop (F.args_list_pop_2 _ _)
    (MeetsSeq.list_pop_at l its.toArray n i t k w (fitsIndex_both h1 h2) (by rw [List.size_toArray, ← hl]; exact hk) (by rw [← Array.getElem?_toList]; exact hw) (by rw [List.size_toArray]; omega)) ⟨e, ?_⟩
  refine ⟨y, _, I.lset (its' := its.eraseIdx k) hH e ?_ (r.eraseIdx k) ?_, rw', q⟩
  · show its.toArray.eraseIdxIfInBounds k = (its.eraseIdx k).toArray
    rw [List.eraseIdxIfInBounds_toArray]
  · have := len_erase xs k
    omega

def rReverse : V → List V → Hp → VK → Prop := fun x vs H Q => ∃ l xs, x = .ref l ∧ vs = [] ∧ H l = some (.lst xs) ∧ Q .non (upd H l (.lst xs.reverse))
theorem mt_reverse : MtM X "list.reverse" rReverse := by
  intro pins s σ H x vs v us Q I rx rv h
  obtain ⟨l, xs, rfl, rfl, hH, q⟩ := h
  cases rx
  have hus := rv.zero
  subst hus
  obtain ⟨z, its, n, r, hl, e⟩ := I.lstM hH
  refine call_meets F.slot_list_reverse ⟨_, e, rfl⟩ F.entry_list_reverse (F.args_list_reverse_1 _) (AutoSeq1.list_reverse_list_0 l its.toArray n (by rw [List.size_toArray]; omega)) ⟨e, ?_⟩
  refine ⟨.non, _, I.lset (its' := its.reverse) hH e (by simp) r.reverse ?_, rfl, q⟩
  rw [List.length_reverse]
  omega

def rClear : V → List V → Hp → VK → Prop := fun x vs H Q => ∃ l xs, x = .ref l ∧ vs = [] ∧ H l = some (.lst xs) ∧ Q .non (upd H l (.lst []))
theorem mt_clear : MtM X "list.clear" rClear := by
  intro pins s σ H x vs v us Q I rx rv h
  obtain ⟨l, xs, rfl, rfl, hH, q⟩ := h
  cases rx
  have hus := rv.zero
  subst hus
  obtain ⟨z, its, n, r, hl, e⟩ := I.lstM hH
  refine call_meets F.slot_list_clear ⟨_, e, rfl⟩ F.entry_list_clear (F.args_list_clear_1 _) (AutoSeq1.list_clear_list_0 l its.toArray n (by rw [List.size_toArray]; omega)) ⟨e, ?_⟩
  exact ⟨.non, _, I.lset (its' := []) (ys := []) hH e rfl .nil (Nat.zero_le _), rfl, q⟩

/-! ### list + list, list += list, list * int -/
def rCat : R2 := fun x y H Q => ∃ l b xs zs, x = .ref l ∧ y = .ref b ∧ H l = some (.lst xs) ∧ H b = some (.lst zs) ∧ xs.length + zs.length ≤ sizeLine ∧ ∀ p, H p = none → Q (.ref p) (upd H p (.lst (xs ++ zs)))
theorem op_cat : OpR X (binaryOp .Add) rCat := by
  intro pins s σ H x y v u Q I rx ry h
  obtain ⟨l, b, xs, zs, rfl, rfl, hH, hB, hz, q⟩ := h
  cases rx
  cases ry
  obtain ⟨z, its, n, r, hl, e⟩ := I.lstM hH
  obtain ⟨z2, its2, n2, r2, hl2, e2⟩ := I.lstM hB
  refine PySem.P.add_list e e2 ?_ (by rw [List.size_toArray, List.size_toArray]; omega)
  have ea : its.toArray ++ its2.toArray = (its ++ its2).toArray := by simp
  rw [ea]
  exact ⟨.ref _, _, I.lnew (t' := s.toks) (r.append r2) (by rw [List.length_append]; omega), rfl, q _ I.fresh⟩
/-- a list times an int (a negative one is nothing) -/
def rRep : R2 := fun x y H Q => ∃ l k xs, x = .ref l ∧ y = .int k ∧ H l = some (.lst xs) ∧ -(2 ^ 63) ≤ k ∧ k < 2 ^ 63 ∧ xs.length * k.toNat ≤ sizeLine ∧
  ∀ p, H p = none → Q (.ref p) (upd H p (.lst (List.replicate k.toNat xs).flatten))
theorem len_rep {α : Type} (xs : List α) (k : Nat) : (List.replicate k xs).flatten.length = k * xs.length := by
  induction k with
  | zero => simp
  | succ k ih => rw [List.replicate_succ, List.flatten_cons, List.length_append, ih, Nat.succ_mul, Nat.add_comm]
theorem op_rep : OpR X (binaryOp .Mult) rRep := by
  intro pins s σ H x y v u Q I rx ry h
  obtain ⟨l, k, xs, rfl, rfl, hH, h1, h2, hz, q⟩ := h
  cases rx
  obtain ⟨t, rfl⟩ := ry
  obtain ⟨z, its, n, r, hl, e⟩ := I.lstM hH
  have hlen : its.toArray.size * k.toNat ≤ sizeLine := by rw [List.size_toArray, ← hl]; exact hz
  have hcap : ¬ its.toArray.size * k.toNat > (2 ^ 63 - 1) / 8 := by
    have : (sizeLine : Nat) ≤ (2 ^ 63 - 1) / 8 := by decide
    omega
  have hfit : ¬ (!Builtin.List.listFitsIndex k) = true := by
    rw [fitsIndex_both h1 h2]
    exact Bool.false_ne_true
  have hlong : ¬ Builtin.List.listTooLong (its.toArray.size * k.toNat) = true := by
    rw [notLongL hlen]
    exact Bool.false_ne_true
  have hnew : List.foldl (fun x1 x2 => x1 ++ x2) #[] (List.replicate (if its.toArray.isEmpty = true then 0 else k.toNat) its.toArray) = (List.replicate k.toNat its).flatten.toArray := by
    have f0 : ∀ m : Nat, List.foldl (fun x1 x2 => x1 ++ x2) #[] (List.replicate m its.toArray) = (List.replicate m its).flatten.toArray := fun m => by
      have := foldl_rep its m []
      rw [List.nil_append] at this
      exact this
    rw [f0]
    cases its with
    | nil => simp
    | cons a r' => rw [if_neg (by simp)]
  refine wpAny_binaryOp_repeat_ref (T := "list") (U := "int") (by decide) ⟨_, e, rfl⟩ (fun s' => typeIs_int s' k t) noFill_list_mul F.fills_int_mul F.slot_int_rmul repeat_list F.slot_int_index.lookup
    (call_meets F.slot_int_rmul (typeIs_int s k t) F.entry_int_rmul (F.args_int_rmul_2 _ _) (int___rmul___int_list k t l its.toArray n)
      ⟨e, rfl, ⟨_, e, rfl⟩, call_meets F.slot_list_mul ⟨_, e, rfl⟩ F.entry_list_mul (F.args_list_mul_2 _ _) (AutoListH.list___mul___list_int_3 l its.toArray n k t hfit hcap hlong) ⟨e, ?_⟩⟩)
  rw [hnew]
  exact ⟨.ref _, _, I.lnew (t' := s.toks) (r.rep k.toNat) (by rw [len_rep, Nat.mul_comm]; exact hz), rfl, q _ I.fresh⟩

/-! ### del xs[i] -/
theorem del_list {pins : List (Addr × Obj)} {s : Shared} {σ : St} {H : Hp} {l : Addr} {xs : List V} {i : Int} {t : Tok} {k : Nat} {Q : Unit → Shared → Prop} (I : Inv X pins σ H s) (hH : H l = some (.lst xs))
    (h1 : -(2 ^ 63) ≤ i) (h2 : i < 2 ^ 63) (hk : seqIndex? i xs.length = some k) (h : ∀ s', Inv X pins σ (upd H l (.lst (xs.eraseIdx k))) s' → Q () s') :
    wpAny (model X.prog X.w) X.A (delItem (.ref l) (.int i t)) Q X.xe s := by
  obtain ⟨z, its, n, r, hl, e⟩ := I.lstM hH
  refine PySem.P.delItem_list (k := k) e (fitsIndex_both h1 h2) (by rw [List.size_toArray, ← hl]; exact hk) (h _ ?_) (by rw [List.size_toArray]; omega)
  refine I.lset (its' := its.eraseIdx k) (t' := s.toks) hH e ?_ (r.eraseIdx k) ?_
  · show its.toArray.eraseIdxIfInBounds k = (its.eraseIdx k).toArray
    rw [List.eraseIdxIfInBounds_toArray]
  · have := len_erase xs k
    omega
end

/-! ### xs[a:b] = ys -/
section
variable {prog : Program} {w : World} {A : Around} {E : Value → Shared → Prop} {s : Shared}
theorem splice_eq (its its2 : List Value) (a c : Nat) : its.toArray.extract 0 a ++ its2.toArray ++ its.toArray.extract c its.toArray.size = (its.take a ++ its2 ++ its.drop c).toArray := by
  apply Array.toList_inj.mp
  first
    | (simp
       exact List.take_of_length_le (by simp))
    | simp [List.take_of_length_le]
    | simp
theorem bounds_run {a c n : Nat} (hac : a ≤ c) (hc : c ≤ n) : sliceBounds (some (a : Int)) (some (c : Int)) none n = ((a : Int), (c : Int), 1) := by
  simp only [sliceBounds, Option.getD_none]
  have h1 : ¬ ((a : Int) < 0) := by omega
  have h2 : ¬ ((c : Int) < 0) := by omega
  simp only [h1, h2, if_false, show (1 : Int) > 0 by decide, if_true]
  congr 1
  · omega
  · congr 1; omega
/-- list.__setitem__ with a slice of step one and another list -/
theorem setItem_slice {l b sl : Addr} {items new : Array Value} {n n2 : Nat} {vl vu : Value} {a c : Nat} {Q : Unit → Shared → Prop}
    (e : s.heap.get? l = some { cls := .type "list", data := .seq items n }) (e2 : s.heap.get? b = some { cls := .type "list", data := .seq new n2 }) (hne : l ≠ b)
    (hs : s.heap.IsSliceOf sl vl vu .none) (pl : IsPart vl (some (a : Int))) (pu : IsPart vu (some (c : Int))) (hac : a ≤ c) (hc : c ≤ items.size)
    (hsz : items.size + new.size ≤ sizeLine) (h : Q () { s with heap := s.heap.update l (Obj.mapSeq fun xs => xs.extract 0 a ++ new ++ xs.extract c xs.size) }) :
    wpAny (model prog w) A (setItem (.ref l) (.ref sl) (.ref b)) Q E s := by
  have hl : s.heap.IsList l items := PySem.IsL.isList e
  have hb : s.heap.IsList b new := PySem.IsL.isList e2
  obtain ⟨os, hos, hcs, hds⟩ := id hs
  have hTs : s.TypeIs (.ref sl) "slice" := ⟨os, hos, hcs⟩
  have hstep : ¬ ((rawPart none == rawInt 0) = true) := Bool.false_ne_true
  have hsame : Builtin.List.listSameRef (.ref l) (.ref b) = false := by
    unfold Builtin.List.listSameRef
    exact beq_eq_false_iff_ne.mpr hne
  have hmax : (max (a : Int) (c : Int)).toNat = c := by omega
  have hz' : ((fun xs : Array Value => xs.extract 0 a ++ new ++ xs.extract c xs.size) items).size ≤ sizeLine + 1 := by
    simp only [Array.size_append, Array.size_extract]
    omega
  unfold setItem
  try with_reducible refine wpAny_holding ?_
  first | refine wpAny_bind (wpAny_pure ?_) | skip
  refine wpAny_bind (wpAny_sequenceKey hl.typeIs (by decide) ?_)
  refine wpAny_bind (wpAny_callSpecial?_slot (name := Str.ofString "__setitem__") hl.typeIs slot_list_setitem
    (wpAny_call_entry slot_list_setitem hl.typeIs entry_list_setitem ?_ (args_list_setitem _ _ _)))
  show wpAny _ _ (Builtin.List.listSubscript? (.ref sl) >>= _) _ _ s
  refine wpAny_bind ?_
  unfold Builtin.List.listSubscript?
  refine wpAny_bind (wpAny_specialOf hTs slice_no_index ?_)
  simp only [Option.isNone_none, if_true]
  refine wpAny_pure ?_
  show wpAny _ _ (typeOf (.ref sl) >>= _) _ _ s
  refine wpAny_bind (wpAny_typeOf hTs ?_)
  first
    | rw [if_neg (by decide)]
    | refine PySem.W.KFB.if_not (by decide) ?_
  rw [listSliceParts_eq]
  refine wpAny_bind (wpAny_bind (wpAny_field hos hds (x := .none) rfl (wpAny_bind (wpAny_listPart .none ?_))))
  rw [if_neg hstep]
  refine wpAny_bind (wpAny_field hos hds (x := vl) rfl (wpAny_bind (wpAny_listPart pl ?_)))
  refine wpAny_bind (wpAny_field hos hds (x := vu) rfl (wpAny_bind (wpAny_listPart pu (wpAny_pure ?_))))
  first
    | simp only [hsame, Bool.false_eq_true, if_false]
    | refine PySem.W.KFB.if_not hsame ?_
    | (dsimp only
       rw [if_neg (by rw [hsame]; exact Bool.false_ne_true)])
  refine wpAny_bind (m := Builtin.List.listAllItems (.ref b) "must assign iterable to extended slice") ?_
  unfold Builtin.List.listAllItems
  refine wpAny_bind (wpAny_typeOf hb.typeIs ?_)
  first
    | refine PySem.W.KFB.if_so (by decide) ?_
    | rw [if_pos (by decide)]
    | simp only [beq_self_eq_true, Bool.true_or, if_true]
  unfold Builtin.List.listItems
  refine wpAny_bind (wpAny_seqItems e2 rfl (wpAny_pure ?_))
  refine wpAny_bind (wpAny_bind (wpAny_seqItems e rfl (wpAny_pure ?_)))
  refine wpAny_bind (wpAny_of_eq ((sliceIndices_raw (some (a : Int)) (some (c : Int)) none items.size (by simp)).trans (congrArg (pure : Int × Int × Int → Sem (Int × Int × Int)) (bounds_run hac hc))) ?_)
  show wpAny _ _ (if ((1 : Int) == 1) = true then _ else _) _ _ s
  rw [if_pos (by decide)]
  refine wpAny_bind (wpAny_rule ?_)
  first
    | simp only [notLongL hsz, Bool.false_eq_true, if_false]
    | refine PySem.W.KFB.if_not (notLongL hsz) ?_
  first | refine wpAny_bind (wpAny_pure ?_) | skip
  show wpAny _ _ (updateSeq l (fun xs => xs.extract 0 ((a : Int)).toNat ++ new ++ xs.extract (max (a : Int) (c : Int)).toNat xs.size) >>= _) _ _ s
  rw [hmax, Int.toNat_natCast]
  refine wpAny_bind (wpAny_updateSeq (hz := Nat.le_trans (Nat.le_add_right _ _) hsz) (_hz' := hz') e rfl ?_)
  refine wpAny_bind (wpAny_letGo ?_)
  first
    | exact wpAny_bind (wpAny_pure (wpAny_pure ⟨.none, rfl, wpAny_pure h⟩))
    | exact wpAny_pure ⟨.none, rfl, wpAny_pure h⟩
end

section
variable {X : Cx}
/-- xs[a:c] = ys of another list, at the value level: sl is the slice object that was just made -/
theorem set_slice {pins : List (Addr × Obj)} {s : Shared} {σ : St} {H : Hp} {l b sl : Addr} {xs ys : List V} {a c : Int} {vl vu : Value} {Q : Unit → Shared → Prop} (I : Inv X pins σ H s)
    (hH : H l = some (.lst xs)) (hB : H b = some (.lst ys)) (hne : l ≠ b) (hs : s.heap.IsSliceOf sl vl vu .none) (ra : RelV (.int a) vl) (rc : RelV (.int c) vu) (h0 : 0 ≤ a) (hac : a ≤ c) (hc : c ≤ xs.length)
    (hz : xs.length + ys.length ≤ sizeLine) (h : ∀ s', Inv X pins σ (upd H l (.lst (xs.take a.toNat ++ ys ++ xs.drop c.toNat))) s' → Q () s') :
    wpAny (model X.prog X.w) X.A (setItem (.ref l) (.ref sl) (.ref b)) Q X.xe s := by
  obtain ⟨ta, rfl⟩ := ra
  obtain ⟨tc, rfl⟩ := rc
  obtain ⟨z, its, n, r, hl, e⟩ := I.lstM hH
  obtain ⟨z2, its2, n2, r2, hl2, e2⟩ := I.lstM hB
  obtain ⟨a', rfl⟩ := Int.eq_ofNat_of_zero_le h0
  obtain ⟨c', rfl⟩ := Int.eq_ofNat_of_zero_le (Int.le_trans h0 hac)
  simp only [Int.toNat_natCast] at h
  refine setItem_slice (a := a') (c := c') e e2 hne hs (.int _ _) (.int _ _) (by omega) (by rw [List.size_toArray]; omega) (by rw [List.size_toArray, List.size_toArray]; omega) (h _ ?_)
  refine I.lset (its' := its.take a' ++ its2 ++ its.drop c') (t' := s.toks) hH e ?_ (Vals.append (Vals.append (r.take _) r2) (r.drop _)) ?_
  · exact splice_eq its its2 a' c'
  · rw [List.length_append, List.length_append, List.length_take, List.length_drop]
    omega
end
end L2

namespace Att
open PySem PySem.W PySem.Calls PyProof.Rows

/-! ### the script -/
theorem ints_of_wellAll {P : Params} {h : Heap} : ∀ (ns : List Int) (vs : List Value), WellAll P h vs (ns.map WData.int) → IntsAre vs ns := by
  intro ns
  induction ns with
  | nil =>
    intro vs w
    rw [List.map_nil] at w
    cases w
    exact .nil
  | cons n ns ih =>
    intro vs w
    rw [List.map_cons] at w
    cases w with
    | cons a b =>
      cases a
      exact .cons _ _ (ih _ b)

theorem script_of {l : OpenLaw} {n : Nat} (hn : l.most = some n) {P : Params} {h : Heap} {args : List WData} {vals : List Value}
    (hpre : l.row.toRowW.claim.pre args = true) (hwl : WellAll P h vals args) :
    ∃ a vs ns, vals = [Value.ref a] ∧ args = [WData.list (ns.map WData.int)] ∧ h.get? a = some { cls := .type "list", data := .seq vs.toArray } ∧ IntsAre vs ns ∧ ns.length ≤ n := by
  have hsh : WShape.hasAll [] args [.list .int] = true := (pre_splitW hpre).1
  have hc : l.pre.holds [] { args := args } = true := (pre_splitW hpre).2
  obtain ⟨d, r, rfl, h1, h2⟩ := hasAllW_cons hsh
  obtain rfl := hasAllW_nil h2
  obtain ⟨xs, rfl, h3⟩ := hasW_list h1
  obtain ⟨ns, rfl⟩ := items_int h3
  have hlen : ns.length ≤ n := by
    unfold OpenLaw.pre at hc
    have h4 : (WTm.not (.lt (.lit (.int (n : Int))) (.len (.arg 0)))).holds [] { args := [.list (ns.map .int)] } = true := by
      have h4 := (holds_andW hc).1
      rw [hn] at h4
      exact h4
    have h5 := condW_of h4 (w_not (w_lt w_lit (w_len_list (w_arg rfl))))
    rw [List.length_map] at h5
    refine Nat.le_of_not_lt fun q => ?_
    have q' : (n : Int) < ((ns.length : Nat) : Int) := by omega
    first
      | (rw [decide_eq_true q'] at h5; exact absurd h5 (by decide))
      | (simp at h5; omega)
  cases hwl with
  | cons w1 w2 =>
    cases w2
    cases w1 with
    | list ho hall => exact ⟨_, _, ns, rfl, rfl, ho, ints_of_wellAll ns _ hall, hlen⟩

theorem post_true (l : OpenLaw) (args : List WData) : l.row.toRowW.claim.post args (.bool true) args = true :=
  postW_of (r := l.row.toRowW) (X := (true == true))
    (show WShape.has [] (.bool true) .bool = true by first | rfl | decide | simp [WShape.has, WShape.arms, WShape.armsAll])
    (show (WTm.eq .res (.lit (.bool true))).value [] { args := args, res := some (.bool true), after := args } = some (.bool (true == true)) from w_eq_bool (w_res rfl) w_lit) rfl

/-! ### the attachment: holds_open's last premise (the goal 'hc' behind k_head) from a wpAny of the law's body -/
theorem attach {l : OpenLaw} {n : Nat} {q : Program} {loose : List Str} {XP : (Str → Option Value) → Heap → Prop} {YP : World → Heap → Prop} {d : DefRec} {x : Str}
    (hn : l.most = some n) (hdf : d.params.defaults = [])
    (hbind : ∀ pm cd doc v : Value, bindArgs (docDef d.name d.params d.body d.scope pm cd doc) ⟨[v], []⟩ = pure [(x, v)])
    (hx : d.scope.names.lookup x = some .local ∨ d.scope.names.lookup x = some .cell)
    (hk : d.scope.kind = .function) (hco : d.scope.isCoroutine = false) (hgen : d.scope.isGenerator = false)
    (body : ∀ (w : World) (s₀ s₁ s : Shared) (mg mb : Str → Option Value) (fa : Addr) (o : Obj) (pm cd doc : Value) (a : Addr) (vs : List Value) (ns : List Int),
      Ground q loose [] XP w s₀ mg mb s₁.heap → YP w s₁.heap →
      s₁.heap.get? fa = some o → o.data = .func (docDef d.name d.params d.body d.scope pm cd doc) → s₁.heap.CodeRec cd d.name → mg d.name = some (.ref fa) →
      s₁.heap.get? a = some { cls := .type "list", data := .seq vs.toArray } → IntsAre vs ns → ns.length ≤ n →
      s.gens = #[] → s.os = s₁.os →
      Fr s₁.heap s₁.heap.objs.size s.heap (bindL (envOfC d.name d.scope s₁.heap.objs.size fa cd).kindOf [(x, .ref a)] fun _ => none) →
      Cl s₁.heap.objs.size (cellsFrom (s₁.heap.objs.size + 1) d.scope.names []) s.heap (bindC (envOfC d.name d.scope s₁.heap.objs.size fa cd).kindOf [(x, .ref a)] fun _ => none) →
      wpAny (model l.prog w) (callerA.deeper (envOfC d.name d.scope s₁.heap.objs.size fa cd)) (execs d.body (envOfC d.name d.scope s₁.heap.objs.size fa cd))
        (fun f s' => f = .ret (.bool true) ∧ OldK s₁.heap s'.heap ∧ s'.os = s₁.os ∧ AllBare s'.gens) (fun _ _ => False) s) :
    WalkO q loose XP YP l.row.toRowW d [] (fun f vs => PySem.call f vs) := by
  intro w s₀ s₁ mg mb G Y fa o pm cd doc dV kV ho hd hcd hD hmg hg args vals as hpre hlay hrd hwl hlo
  obtain rfl : dV = .none := Dflts.none hD hdf
  obtain rfl : kV = .none := Dflts.noKw hD
  obtain ⟨a, vs, ns, rfl, rfl, hobj, hints, hlen⟩ := script_of hn hpre hwl
  refine enter_call ?_
  refine call_cells_ret (o := o) (by rw [depth_caller]; decide) ho (fd_plain hd) G.T.nolimit hcd (hbind pm cd doc (.ref a)) (fun y hy => ?_) (fun h₁ tk F X => ?_) hco hgen hk
  · obtain rfl : y = (x, Value.ref a) := List.mem_singleton.mp hy
    rcases hx with e | e
    · exact .inl e
    · exact .inr ⟨e, cellsFrom_some _ _ _ (.inl e)⟩
  · refine wpAny_mono (body w s₀ s₁ { s₁ with heap := h₁, toks := tk } mg mb fa o pm cd doc a vs ns G Y ho (fd_plain hd) hcd hmg hobj hints hlen hg rfl F X) (fun f s' hq => ?_) (fun _ _ hq => hq)
    obtain ⟨rfl, h2, h3, h4⟩ := hq
    exact ⟨.inl ⟨.bool true, .bool true, [], rfl, fun _ => rfl, .bool true, post_true l _, fun _ => ⟨List.Pairwise.nil, fun _ hm => (nomatch hm)⟩⟩, h2, h3, h4⟩

/-- the same from a codeAny of the CALL (for a layer whose function contracts speak of calls) -/
theorem attach_call {l : OpenLaw} {n : Nat} {q : Program} {loose : List Str} {XP : (Str → Option Value) → Heap → Prop} {YP : World → Heap → Prop} {d : DefRec}
    (hn : l.most = some n) (hdf : d.params.defaults = [])
    (call : ∀ (w : World) (s₀ s₁ : Shared) (mg mb : Str → Option Value) (fa : Addr) (o : Obj) (pm cd doc : Value) (a : Addr) (vs : List Value) (ns : List Int),
      Ground q loose [] XP w s₀ mg mb s₁.heap → YP w s₁.heap →
      s₁.heap.get? fa = some o → o.data = .func (docDef d.name d.params d.body d.scope pm cd doc) → s₁.heap.CodeRec cd d.name → mg d.name = some (.ref fa) →
      s₁.heap.get? a = some { cls := .type "list", data := .seq vs.toArray } → IntsAre vs ns → ns.length ≤ n → s₁.gens = #[] →
      codeAny (model l.prog w) callerA (.call (.ref fa) ⟨[.ref a], []⟩) (fun r s' => r = .ok (.ret (.bool true)) ∧ OldK s₁.heap s'.heap ∧ s'.os = s₁.os ∧ AllBare s'.gens) s₁) :
    WalkO q loose XP YP l.row.toRowW d [] (fun f vs => PySem.call f vs) := by
  intro w s₀ s₁ mg mb G Y fa o pm cd doc dV kV ho hd hcd hD hmg hg args vals as hpre hlay hrd hwl hlo
  obtain rfl : dV = .none := Dflts.none hD hdf
  obtain rfl : kV = .none := Dflts.noKw hD
  obtain ⟨a, vs, ns, rfl, rfl, hobj, hints, hlen⟩ := script_of hn hpre hwl
  refine enter_call (codeAny_mono (call w s₀ s₁ mg mb fa o pm cd doc a vs ns G Y ho (fd_plain hd) hcd hmg hobj hints hlen hg) fun r s' hq => ?_)
  obtain ⟨rfl, h2, h3, h4⟩ := hq
  exact ⟨.inl ⟨.bool true, .bool true, [], rfl, fun _ => rfl, .bool true, post_true l _, fun _ => ⟨List.Pairwise.nil, fun _ hm => (nomatch hm)⟩⟩, h2, h3, h4⟩

/-- the same where the top left finished generators (o_head chose holds_openN): nothing may have changed at all and no generator may be left -/
theorem attachN {l : OpenLaw} {n : Nat} {q : Program} {loose : List Str} {XP : (Str → Option Value) → Heap → Prop} {YP : World → Heap → Prop} {d : DefRec} {x : Str}
    (hn : l.most = some n) (hdf : d.params.defaults = [])
    (hbind : ∀ pm cd doc v : Value, bindArgs (docDef d.name d.params d.body d.scope pm cd doc) ⟨[v], []⟩ = pure [(x, v)])
    (hx : d.scope.names.lookup x = some .local ∨ d.scope.names.lookup x = some .cell)
    (hk : d.scope.kind = .function) (hco : d.scope.isCoroutine = false) (hgen : d.scope.isGenerator = false)
    (body : ∀ (w : World) (s₀ s₁ s : Shared) (mg mb : Str → Option Value) (fa : Addr) (o : Obj) (pm cd doc : Value) (a : Addr) (vs : List Value) (ns : List Int),
      Ground q loose [] XP w s₀ mg mb s₁.heap → YP w s₁.heap →
      s₁.heap.get? fa = some o → o.data = .func (docDef d.name d.params d.body d.scope pm cd doc) → s₁.heap.CodeRec cd d.name → mg d.name = some (.ref fa) →
      s₁.heap.get? a = some { cls := .type "list", data := .seq vs.toArray } → IntsAre vs ns → ns.length ≤ n →
      s.gens = #[] → s.os = s₁.os →
      Fr s₁.heap s₁.heap.objs.size s.heap (bindL (envOfC d.name d.scope s₁.heap.objs.size fa cd).kindOf [(x, .ref a)] fun _ => none) →
      Cl s₁.heap.objs.size (cellsFrom (s₁.heap.objs.size + 1) d.scope.names []) s.heap (bindC (envOfC d.name d.scope s₁.heap.objs.size fa cd).kindOf [(x, .ref a)] fun _ => none) →
      wpAny (model l.prog w) (callerA.deeper (envOfC d.name d.scope s₁.heap.objs.size fa cd)) (execs d.body (envOfC d.name d.scope s₁.heap.objs.size fa cd))
        (fun f s' => f = .ret (.bool true) ∧ (∀ b o, s₁.heap.get? b = some o → s'.heap.get? b = some o) ∧ s'.os = s₁.os ∧ s'.gens = #[]) (fun _ _ => False) s) :
    WalkN q loose XP YP l.row.toRowW d [] (fun f vs => PySem.call f vs) := by
  intro w s₀ s₁ mg mb G Y fa o pm cd doc dV kV ho hd hcd hD hmg hg args vals as hpre hlay hrd hwl hlo
  obtain rfl : dV = .none := Dflts.none hD hdf
  obtain rfl : kV = .none := Dflts.noKw hD
  obtain ⟨a, vs, ns, rfl, rfl, hobj, hints, hlen⟩ := script_of hn hpre hwl
  refine enter_callW ?_
  refine call_cells_ret (o := o) (by rw [depth_caller]; decide) ho (fd_plain hd) G.T.nolimit hcd (hbind pm cd doc (.ref a)) (fun y hy => ?_) (fun h₁ tk F X => ?_) hco hgen hk
  · obtain rfl : y = (x, Value.ref a) := List.mem_singleton.mp hy
    rcases hx with e | e
    · exact .inl e
    · exact .inr ⟨e, cellsFrom_some _ _ _ (.inl e)⟩
  · refine wpAny_mono (body w s₀ s₁ { s₁ with heap := h₁, toks := tk } mg mb fa o pm cd doc a vs ns G Y ho (fd_plain hd) hcd hmg hobj hints hlen hg rfl F X) (fun f s' hq => ?_) (fun _ _ hq => hq)
    obtain ⟨rfl, h2, h3, h4⟩ := hq
    exact ⟨.inl ⟨.bool true, .bool true, [], rfl, fun _ => rfl, .bool true, post_true l _, fun _ => ⟨List.Pairwise.nil, fun _ hm => (nomatch hm)⟩⟩, h2, h3, h4⟩

/-! ### rules over ANY heap (no ledger) from facts about the written part K: the library's own take a ledger (News) for what they write -/
section
variable {prog : Program} {w : World} {A : Around} {E : Value → Shared → Prop} {s : Shared} {K : Frag}

/-- a def of the module, or a method (qual 'C.m'), entered: the frame is the next address; cells behind it -/
theorem call_fn {R : Result → Shared → Prop} {name qual : Str} {params : Arguments} {body : List Stmt} {scope : Scope} {dV kV doc pm cdv ct oc : Value} {an od : Option Addr} {osl : Array (Option Value)} {f : Addr} {args : Args} {binds : List (Str × Value)}
    (X : K.In s.heap) (hlim : s.heap.NoLimit) (ho : K.lookup f = some ⟨oc, od, .func (fnOf name qual params body scope dV kV doc pm an cdv ct), osl⟩) (hcd : codeIn K cdv qual = true) (hroom : A.depth < recursionLimit)
    (hbind : BindsTo s (fnOf name qual params body scope dV kV doc pm an cdv ct) args binds)
    (hkind : (binds.all fun y => scope.names.lookup y.1 == some .local || scope.names.lookup y.1 == some .cell) = true)
    (h : ∀ s₁, InCallC s s.heap.objs.size (bindL (envOfC qual scope s.heap.objs.size f cdv).kindOf binds fun _ => none) (cellsFrom (s.heap.objs.size + 1) scope.names [])
        (bindC (envOfC qual scope s.heap.objs.size f cdv).kindOf binds fun _ => none) s₁ →
      wpAny (model prog w) (A.deeper (envOfC qual scope s.heap.objs.size f cdv)) (execs body (envOfC qual scope s.heap.objs.size f cdv))
        (fun fl s' => R (.ok (.ret (match fl with | .ret v => v | _ => .none))) s')
        (fun e s' => wpAny (model prog w) (A.deeper (envOfC qual scope s.heap.objs.size f cdv)) (leaving (envOfC qual scope s.heap.objs.size f cdv) e) (fun _ s'' => R (.error e) s'') (fun e' s'' => R (.error e') s'') s') s₁)
    (hco : scope.isCoroutine = false) (hgen : scope.isGenerator = false) (hk : scope.kind = .function) : codeAny (model prog w) A (.call (.ref f) args) R s := by
  refine codeAny_call_function hroom (X _ _ ho) rfl hco hgen rfl (codeRec_of X hcd) (hbind _ _ _ _ ?_)
  refine wpAny_newFunctionEnv_cells hk (kindsX hkind _) fun env he s₁ x => ?_
  subst he
  exact ⟨hlim.keeps x.toInCall.keep, codeAny_func (h s₁ x)⟩

/-- C(..): dict at size, instance at size + 1, then __init__ -/
theorem make_obj {R : Result → Shared → Prop} {C fI : Addr} {rest : List Value} {kw : List (Str × Value)}
    (X : K.In s.heap) (hm : makesIn K C = true) (hi : findIn K (.ref C) "__init__" = some (some (.ref fI))) (hf : isFn K (.ref fI) = true)
    (h : codeAny (model prog w) (A.under (.builtin "type.__call__" ⟨.ref C :: rest, kw⟩)) (.call (.ref fI) ⟨.ref (s.heap.objs.size + 1) :: rest, kw⟩) (InitBack (s.heap.objs.size + 1) R)
      { s with heap := (s.heap.push emptyDict).push (instObj C s.heap.objs.size) }) : codeAny (model prog w) A (.call (.ref C) ⟨rest, kw⟩) R s := by
  obtain ⟨hh, g, d, t, os⟩ := s
  exact make_core (makes_of X hm) (looks_findIn X hi) (fun self => bind_fn X self (beq_iff_eq.mp hf)) (.inl rfl) h

/-- x.name where the instance's dict holds the name and the class does not -/
theorem get_field {x C : Addr} {ox : Obj} {es : List DictEntry} {n : Nat} {name : Str} {expr : Bool} {v : Value} {Q : Value → Shared → Prop}
    (X : K.In s.heap) (I : PySem.W.InstAt s.heap x ox C (some (dictOf es n))) (hg : plainGet K C name = true) (hh : hasDictIn K C = true) (ha : findIn K (.ref C) name = some none)
    (hl : getL name es = some (some v)) (hv : handedIn v = true) (h : Q v { s with toks := s.toks + 1 }) : wpAny (model prog w) A (getAttr (.ref x) name expr) Q E s :=
  get_value X I (plainGet_of hg).1 (findObj_own hh ha rfl hl) hv h

/-- x.m(..): the method found in the class -/
theorem get_method {x C f : Addr} {ox : Obj} {es : List DictEntry} {n : Nat} {name : Str} {pl : Sem Bool} {Q : Value × List Value → Shared → Prop}
    (X : K.In s.heap) (I : PySem.W.InstAt s.heap x ox C (some (dictOf es n))) (hg : plainGet K C name = true) (hf : findIn K (.ref C) name = some (some (.ref f))) (ht : isFn K (.ref f) = true)
    (hl : getL name es = some none) (h : Q (.ref f, [.ref x]) s) : wpAny (model prog w) A (getMethod (.ref x) name pl) Q E s :=
  method_fn X I (plainGet_of hg).1 (plainGet_of hg).2 hf (beq_iff_eq.mp ht) (by show (lookIn name (dictOf es n)).map _ = _; rw [lookIn_dict, hl]; rfl) h

/-! the whole heap as the ledger: makes every rule that writes through a ledger a rule over any heap -/
def noObjs (h : Heap) : Heap := { h with objs := #[] }
theorem noObjs_get (h : Heap) (b : Addr) : (noObjs h).get? b = none := by
  cases e : (noObjs h).get? b with
  | none => rfl
  | some o => exact absurd (Heap.lt_size e) (Nat.not_lt_zero _)
def ledger (h : Heap) (L d : Addr) : List (Addr × Obj) := (List.range h.objs.size).filterMap fun a => if a = L ∨ a = d then none else (h.get? a).map fun o => (a, o)
theorem mem_ledger {h : Heap} {L d a : Addr} {o : Obj} : (a, o) ∈ ledger h L d ↔ a ≠ L ∧ a ≠ d ∧ h.get? a = some o := by
  unfold ledger
  rw [List.mem_filterMap]
  constructor
  · rintro ⟨b, _, e⟩
    split at e
    · cases e
    · rename_i hb
      obtain ⟨o', ho, e'⟩ := Option.map_eq_some_iff.mp e
      cases e'
      exact ⟨fun q => hb (.inl q), fun q => hb (.inr q), ho⟩
  · rintro ⟨n1, n2, ho⟩
    refine ⟨a, List.mem_range.mpr (Heap.lt_size ho), ?_⟩
    rw [if_neg (show ¬ (a = L ∨ a = d) from fun q => q.elim n1 n2), ho] <;> rfl
theorem news_ledger {h : Heap} {L d : Addr} {od : Obj} (hne : d ≠ L) (ho : h.get? d = some od) : News (noObjs h) L h ([] ++ (d, od) :: ledger h L d) := by
  rintro ⟨a, o⟩ hp
  rcases List.mem_cons.mp hp with e | hp
  · cases e
    exact ⟨ho, hne, noObjs_get _ _⟩
  · obtain ⟨n1, n2, e⟩ := mem_ledger.mp hp
    exact ⟨e, n1, noObjs_get _ _⟩
theorem fr_all {h : Heap} {L : Addr} {m : Str → Option Value} (n : h.Ns L m) : Fr (noObjs h) L h m :=
  ⟨n, fun b o e => (by rw [noObjs_get] at e; cases e), Nat.zero_le _⟩
/-- Upd of the head entry (for append_K, setItem_K ..) -/
theorem upd_ledger {h : Heap} {L d : Addr} {o o' : Obj} : Upd d o o' ((d, o) :: ledger h L d) ((d, o') :: ledger h L d) :=
  .head fun ⟨_, _⟩ hp => (mem_ledger.mp hp).2.1

/-- x.name = v over any heap: L is any namespace of the heap (the frame's, say): its map stays, its object is not told; all else but the dict stays -/
theorem set_field {x C dx L : Addr} {ox : Obj} {m : Str → Option Value} {es es' : List DictEntry} {n n' : Nat} {name : Str} {v : Value} {Q : Unit → Shared → Prop}
    (X : K.In s.heap) (I : PySem.W.InstAt s.heap x ox C (some (dictOf es n))) (hd : ox.dict = some dx) (hL : s.heap.Ns L m) (hne : dx ≠ L)
    (hs : findIn K (.ref C) "__setattr__" = some (some (.builtin "object.__setattr__"))) (hp : plainOver K C = true) (ht : takerIn K C name = some none) (hh : hasDictIn K C = true) (hl : (getL name es).isSome = true)
    (e : (putL name (PyData.keyHash w.params name) (.str name (s.toks + 1)) v es, putN name es n) = (es', n')) (hz : es'.length ≤ 1000)
    (h : ∀ h' : Heap, h'.Ns L m → h'.get? dx = some (dictOf es' n') → (∀ b o, b ≠ dx → b ≠ L → s.heap.get? b = some o → h'.get? b = some o) → Q () { s with heap := h', toks := s.toks + 2 }) :
    wpAny (model prog w) A (setAttr (.ref x) name v) Q E s := by
  obtain ⟨e1, e2⟩ := Prod.mk.inj e
  have hdx : s.heap.get? dx = some (dictOf es n) := by
    have := I.dict
    rw [hd] at this
    exact this
  refine set_plain X I hs (osa_dict (s := { s with toks := s.toks + 1 }) (h₀ := noObjs s.heap) (L := L) (m := m) (od := dictOf es n) (od' := dictOf es' n') (es := es') (n := n') (pre := []) (post := ledger s.heap L dx)
    (fr_all hL) (news_ledger hne hdx) X I hd hp ht hh hl (fun _ q => nomatch q) (fun ⟨_, _⟩ q => (mem_ledger.mp q).2.1) (by rw [putName_dict, e1, e2]) rfl hz fun h' F' N' => ?_)
  exact h h' F'.ns (N'.get (List.Mem.head _)) fun b o n1 n2 ho => N'.get (List.Mem.tail _ (mem_ledger.mpr ⟨n2, n1, ho⟩))
end
end Att

namespace L2
open PySem PySem.Spec PyProof.Rows

theorem vals_ints : ∀ {vs : List Value} {ns : List Int}, IntsAre vs ns → Vals (ns.map V.int) vs
  | _, _, .nil => .nil
  | _, _, .cons n t h => .cons ⟨t, rfl⟩ (vals_ints h)

/-- nothing is tracked but the script, known to the object (or it is an object of the module) -/
def Only (H : Hp) : Prop := ∀ b, H b = none ∨ ∃ o xs, H b = some (.frz o (.lst xs))

/-- THE HEAD: the law's promise, at the heap behind the top. F, the promise of the law's def, may use that base is part of the heap (so K.In base, base.Ns mainGlobals mg stand in Mod) -/
theorem law_call {P : Program} {w : World} {K : PySem.W.Frag} {mg mb : Str → Option Value} {CX : CXT} {k : Nat} {fa a : Addr} {fd : FuncData} {x : Str} {sp : Sp} {s₁ : Shared} {vs : List Value} {ns : List Int}
    (KX : K.In s₁.heap) (hns : s₁.heap.Ns mainGlobals mg) (hb : s₁.heap.Ns builtinsNs mb) (hbb : ∀ x : Str, x ≠ "__name__" → mb x = bootBuiltins x) (hlim : s₁.heap.NoLimit) (hg : s₁.gens = #[])
    (ha : s₁.heap.get? a = some { cls := .type "list", data := .seq vs.toArray }) (hi : IntsAre vs ns) (hl : ns.length ≤ sizeLine) (hr : Room k callerA)
    (F : ∀ base : Heap, K.In base → base.Ns mainGlobals mg → FnOk P w K mg base CX k fa fd [x] sp) (hbind : ∀ (s : Shared) (u : Value), BindsTo s fd ⟨[u], []⟩ [(x, u)])
    (hsp : ∀ H : Hp, Only H → SqL K H a (ns.map V.int) → sp [.ref a] H (fun v _ => v = .bl true) fun _ _ _ => False)
    (hCX : ∀ H e s', CX [] H s₁ (fun _ _ _ => False) e s' → False) :
    codeAny (model P w) callerA (.call (.ref fa) ⟨[.ref a], []⟩) (fun r s' => r = .ok (.ret (.bool true)) ∧ OldK s₁.heap s'.heap ∧ s'.os = s₁.os ∧ AllBare s'.gens) s₁ := by
  have rv := vals_ints hi
  have lenV := hi.length
  -- from an abstract heap in which nothing but the script may be tracked
  have core : ∀ H : Hp, Only H → SqL K H a (ns.map V.int) → HOk P w H s₁.heap → (∀ b, H b ≠ none → b = a) → (H a ≠ none → K.lookup a = none) →
      codeAny (model P w) callerA (.call (.ref fa) ⟨[.ref a], []⟩) (fun r s' => r = .ok (.ret (.bool true)) ∧ OldK s₁.heap s'.heap ∧ s'.os = s₁.os ∧ AllBare s'.gens) s₁ := by
    intro H hO hS hok hA hK
    have base_of : ∀ {b : Addr} {o : Obj}, s₁.heap.get? b = some o → H b = none → (hidT s₁.heap H).get? b = some o := fun e n => hidT_get e n
    have noA : ∀ {b : Addr} {o : Obj} {es : Array DictEntry} {ep : Nat}, s₁.heap.get? b = some o → o.data = .dict es ep → H b = none := fun {b o es ep} e d => by
      cases q : H b with
      | none => rfl
      | some u =>
        have e' : b = a := hA b (by rw [q]; simp)
        subst e'
        rw [ha] at e; cases e
        have d' : Data.seq vs.toArray _ = Data.dict es ep := d
        cases d'
    have nsK : ∀ {b : Addr} {m : Str → Option Value}, s₁.heap.Ns b m → (hidT s₁.heap H).Ns b m := fun {b m} ⟨o, es, ep, e, d, r⟩ => ⟨o, es, ep, base_of e (noA e d), d, r⟩
    have hKb : K.In (hidT s₁.heap H) := fun b o e => base_of (KX b o e) (by
      cases q : H b with
      | none => rfl
      | some u =>
        have e' : b = a := hA b (by rw [q]; simp)
        subst e'
        rw [hK (by rw [q]; simp)] at e; cases e)
    have hM : Mod K mg (hidT s₁.heap H) := ⟨hKb, nsK hns, ⟨mb, nsK hb, hbb⟩, let ⟨mc, h1, h2⟩ := hlim; ⟨mc, nsK h1, h2⟩⟩
    have e0 : Env0 P w K mg (hidT s₁.heap H) callerA [] s₁ H := ⟨rfl, hM, fun b o e => of_hidT e, Nat.le_of_eq (hidT_size _ _), trivial, fun b hb => absurd (show b ∈ ([] : List Addr) from hb) (by simp), hok, .of_eq hg⟩
    refine codeAny_mono ((F _ hKb (nsK hns)).run callerA [] s₁ H ⟨[.ref a], []⟩ [.ref a] [.ref a] _ _ hr e0 (hbind s₁ (.ref a)) (.cons rfl .nil) (hsp H hO hS)) fun r s' h => ?_
    cases r with
    | error e => exact (hCX H e s' h).elim
    | ok fl =>
      cases fl with
      | next => exact False.elim h
      | brk => exact False.elim h
      | cont => exact False.elim h
      | ret u =>
        obtain ⟨v, H', os, bare, un, hok', r', q⟩ := h
        have q' : v = .bl true := q
        subst q'
        obtain rfl : u = Value.bool true := r'
        refine ⟨rfl, OldK.of_keep fun b o e => ?_, os, bare⟩
        cases q : H b with
        | none => exact un.keep b o e q (by intro z; exact absurd (show b ∈ ([] : List Addr) from z) (by simp)) (by simp)
        | some u =>
          rcases hO b with z | ⟨ob, xs, z⟩
          · rw [q] at z; cases z
          · have z2 := un.frzs b ob _ z
            obtain ⟨e1, _⟩ := hok b _ z
            obtain ⟨e2, _⟩ := hok' b _ z2
            rw [e] at e1; cases e1
            exact e2
  cases hk : K.lookup a with
  | some o =>
    -- the script is one of the module's own objects
    have e := KX a o hk
    rw [ha] at e
    cases e
    refine core (fun _ => none) (fun _ => .inl rfl) (.inr ⟨_, vs.toArray, _, hk, rfl, rfl, rfl, by rw [List.size_toArray, lenV]; exact hl, by simpa using rv⟩) (fun b u z => by have z' : (none : Option HO) = some u := z; cases z') (fun b z => absurd rfl z) fun z => absurd rfl z
  | none =>
    refine core (fun b => if b = a then some (.frz { cls := .type "list", data := .seq vs.toArray } (.lst (ns.map V.int))) else none) (fun b => ?_) (.inl (.inr ⟨{ cls := .type "list", data := .seq vs.toArray }, if_pos rfl⟩)) (fun b u z => ?_) (fun b z => ?_) fun _ => hk
    · by_cases hb : b = a
      · exact .inr ⟨_, _, if_pos hb⟩
      · exact .inl (if_neg hb)
    · by_cases hb : b = a
      · have z' := (if_pos hb).symm.trans z
        cases z'
        subst hb
        exact ⟨ha, by rw [List.length_map]; exact hl, vs, _, rv, ha⟩
      · have z' := (if_neg hb).symm.trans z
        cases z'
    · by_cases hb : b = a
      · exact hb
      · exact absurd (if_neg hb) z
end L2

namespace L2
open PySem PySem.Spec PyProof.Rows

abbrev KOf {K : PySem.W.Frag} {h : Heap} (_ : K.In h) : PySem.W.Frag := K

/-- the goal that k_head leaves (case hc), from the law's promise. F gives the function object fd (K's own) once, then the promise over every base -/
theorem walk_of {l : PySem.W.OpenLaw} {n k : Nat} {q : Program} {loose : List Str} {XP : (Str → Option Value) → Heap → Prop} {YP : World → Heap → Prop} {d : DefRec} {K : Params → PySem.W.Frag} {CX : World → CXT} {sp : World → Sp} {x : Str}
    (hn : l.most = some n) (hn2 : n ≤ sizeLine) (hdf : d.params.defaults = []) (hr : Room k callerA)
    (hY : ∀ (w : World) (h : Heap), YP w h → (K w.params).In h)
    (F : ∀ (w : World) (mg : Str → Option Value) (fa : Addr) (h : Heap), (K w.params).In h → h.Ns mainGlobals mg → mg d.name = some (.ref fa) →
      ∃ fd : FuncData, (∀ (s : Shared) (u : Value), BindsTo s fd ⟨[u], []⟩ [(x, u)]) ∧
        ∀ base : Heap, (K w.params).In base → base.Ns mainGlobals mg → FnOk l.prog w (K w.params) mg base (CX w) k fa fd [x] (sp w))
    (hsp : ∀ (w : World) (H : Hp) (a : Addr) (ns : List Int), ns.length ≤ n → Only H → SqL (K w.params) H a (ns.map V.int) → sp w [.ref a] H (fun v _ => v = .bl true) fun _ _ _ => False)
    (hCX : ∀ (w : World) (H : Hp) (s : Shared) (e : Value) (s' : Shared), CX w [] H s (fun _ _ _ => False) e s' → False) :
    PySem.W.WalkO q loose XP YP l.row.toRowW d [] (fun f vs => PySem.call f vs) := by
  refine Att.attach_call hn hdf fun w s₀ s₁ mg mb fa o pm cd doc a vs ns G Y ho hd hcd hmg hobj hints hlen hg => ?_
  have KX := hY w _ Y
  obtain ⟨fd, hb, hF⟩ := F w mg fa _ KX G.T.g hmg
  exact law_call KX G.T.g G.T.b G.T.builtins G.T.nolimit hg hobj hints (Nat.le_trans hlen hn2) hr hF hb (fun H hO hS => hsp w H a ns hlen hO hS) fun H e s' => hCX w H s₁ e s'
/-- the same where the promise hangs on the written part alone: (sp := My.sp_law), no hole under a binder -/
theorem walk_ofK {l : PySem.W.OpenLaw} {n k : Nat} {q : Program} {loose : List Str} {XP : (Str → Option Value) → Heap → Prop} {YP : World → Heap → Prop} {d : DefRec} {K : Params → PySem.W.Frag} {CX : CXT} {sp : PySem.W.Frag → Sp} {x : Str}
    (hn : l.most = some n) (hn2 : n ≤ sizeLine) (hdf : d.params.defaults = []) (hr : Room k callerA)
    (hY : ∀ (w : World) (h : Heap), YP w h → (K w.params).In h)
    (F : ∀ (w : World) (mg : Str → Option Value) (fa : Addr) (h : Heap), (K w.params).In h → h.Ns mainGlobals mg → mg d.name = some (.ref fa) →
      ∃ fd : FuncData, (∀ (s : Shared) (u : Value), BindsTo s fd ⟨[u], []⟩ [(x, u)]) ∧
        ∀ base : Heap, (K w.params).In base → base.Ns mainGlobals mg → FnOk l.prog w (K w.params) mg base CX k fa fd [x] (sp (K w.params)))
    (hsp : ∀ (K : PySem.W.Frag) (H : Hp) (a : Addr) (ns : List Int), ns.length ≤ n → Only H → SqL K H a (ns.map V.int) → sp K [.ref a] H (fun v _ => v = .bl true) fun _ _ _ => False)
    (hCX : ∀ (H : Hp) (s : Shared) (e : Value) (s' : Shared), CX [] H s (fun _ _ _ => False) e s' → False) :
    PySem.W.WalkO q loose XP YP l.row.toRowW d [] (fun f vs => PySem.call f vs) :=
  walk_of (K := K) (CX := fun _ => CX) (sp := fun w => sp (K w.params)) hn hn2 hdf hr hY F (fun w H a ns h1 h2 h3 => hsp (K w.params) H a ns h1 h2 h3) fun _ H s e s' => hCX H s e s'
end L2

/- THE LAST THEOREM (shape; LID, My.* are yours):
   My.Adr: a structure of the addresses that your layer names (classes, functions); My.Txt K t: a structure (Prop) of the equations over K;
   My.txt_mk : {K} {implicit addresses ..} (e1 : nsIn K mainGlobals "law" = some (some (.ref f))) (e2 : K.lookup f = some ⟨oc, od, .func (fnOf "law" "law" params body scope dV kV doc pm an cdv ct), sl⟩) (e3 : codeIn K cdv "law" = true) .. : ∃ t, My.Txt K t

set_option maxRecDepth 100000 in
set_option maxHeartbeats 0 in
theorem PySem.Challenge.cw_LID_holds : PySem.Challenge.rw_LID.Holds := by
  w_on; o_law; k_head; (case hw => w_witness2)
  k_fill
  refine L2.walk_of (l := PySem.Challenge.rw_LID) (n := 63) (k := 40) (x := "script") (CX := fun w => ..) (sp := fun _ => My.sp_law) rfl (by decide) rfl ⟨rfl, by decide, by decide⟩ (fun w h Y => PySem.W.kIn_of Y) ?F ?S ?C
  case F =>
    intro w mg fa h KX G hmg
    have T : ∃ t, My.Txt (L2.KOf KX) t := by
      dsimp only [L2.KOf]                          -- K must stand as «<heap const> w.params» for k_is
      refine' My.txt_mk ?e1 ?e2 ?e3 ..
      (case e1 => PySem.W.k_is)                    -- in the order: a name -> its address -> its object -> its parts
      (case e2 => PySem.W.k_is)
      ..
    obtain ⟨t, T⟩ := T
    have e0 := hmg.symm.trans (PySem.W.mg_of KX G T.law)
    cases e0                                       -- fa is the law's own address
    exact ⟨_, fun s u => .of_eq rfl, fun base kb nb => My.law_fn T kb nb⟩     -- if «.of_eq rfl» comes too early: refine' ⟨_, ?b, fun base kb nb => My.law_fn T kb nb⟩; exact fun s u => .of_eq rfl
  case S => exact fun w H a ns hl hO hS => ..
  case C => exact ..
(the tactic k_is has no namespace: write k_is) -/

/-! SHORT WORDS over the layer: a def of the text, its body, what a loop and a test want. -/
namespace L2
open PySem PySem.Spec PyProof.Rows

/-! ### the text by places -/
/-- the j-th statement of a class's body -/
def inClass (s : Stmt) (j : Nat) : Stmt := match s with
  | .ClassDef _ _ _ body _ _ _ _ _ _ _ => body.getD j (.Pass ⟨0, 0, 0, 0⟩)
  | _ => .Pass ⟨0, 0, 0, 0⟩
def defArgs (s : Stmt) : Arguments := match s with
  | .FunctionDef _ a _ _ _ _ _ _ _ _ => a
  | _ => { posonlyargs := [], args := [], vararg := none, kwonlyargs := [], kw_defaults := [], kwarg := none, defaults := [] }
def defBody (s : Stmt) : List Stmt := match s with
  | .FunctionDef _ _ b _ _ _ _ _ _ _ => b
  | _ => []
def defScope (s : Stmt) : Scope := match s with
  | .FunctionDef _ _ _ _ _ _ sc _ _ _ => sc
  | _ => { kind := .function, names := [], isGenerator := false, isCoroutine := false }

/-! ### no exception leaves a def -/
abbrev CX0 : CXT := fun _ _ _ _ _ _ => False
abbrev E0 : XK := fun _ _ _ => False
theorem pass0 {X : Cx} : Passes CX0 X E0 := fun _ _ _ _ _ _ _ h => h.elim

/-! ### a def (or method) of the text as it stands behind the top -/
structure Fun (K : PySem.W.Frag) (x qual : Str) (st : Stmt) (f : Addr) (fd : FuncData) : Prop where
  ex : ∃ (oc : Value) (od : Option Addr) (kV doc pm : Value) (an : Option Addr) (cdv ct : Value) (osl : Array (Option Value)),
    fd = PySem.W.fnOf x qual (defArgs st) (defBody st) (defScope st) .none kV doc pm an cdv ct ∧ K.lookup f = some ⟨oc, od, .func fd, osl⟩ ∧ PySem.W.codeIn K cdv qual = true
  kp : PySem.W.keepIn K (.ref f) = true
section
variable {P : Program} {w : World} {K : PySem.W.Frag} {mg : Str → Option Value} {base : Heap}
/-- THE RULE for a def: its body as a term of rules, and the reading of that term -/
theorem Fun.ok {x qual : Str} {st : Stmt} {f : Addr} {fd : FuncData} {N ps : List Str} {k : Nat} {sp : Sp} (F : Fun K x qual st f fd) (S : FnScope N ps (defScope st)) (len : ∀ vs H Q E, sp vs H Q E → vs.length = ps.length)
    (hbody : ∀ (cdv : Value) (A : Around) (outer : List Env) (s : Shared) (H : Hp) (vs : List V) (Q : VK) (E : XK), Room k (A.deeper (envOfC qual (defScope st) s.heap.objs.size f cdv)) → sp vs H Q E →
      ∃ t, PSs (cxOf CX0 P w K mg base N qual (defScope st) f cdv A outer s H E).nox (defBody st) t ∧ t { nx := fun _ H' => Q .non H', rt := Q } (start N vs) H) : FnOk P w K mg base CX0 (k + 1) f fd ps sp := by
  obtain ⟨oc, od, kV, doc, pm, an, cdv, ct, osl, rfl, lk, hcd⟩ := F.ex
  refine fn_of lk hcd S len fun A outer s H vs Q E hr hsp => ?_
  obtain ⟨t, h, q⟩ := hbody cdv A outer s H vs Q E hr hsp
  exact ⟨t, h.nox, q⟩
/-- how its arguments bind (no defaults): h is «fun _ _ _ _ _ _ us hl => match us, hl with | [_, _], _ => rfl», one _ a parameter -/
theorem Fun.binds {x qual : Str} {st : Stmt} {f : Addr} {fd : FuncData} {ps : List Str} (F : Fun K x qual st f fd)
    (h : ∀ (kV doc pm : Value) (an : Option Addr) (cdv ct : Value) (us : List Value), us.length = ps.length → bindArgs (PySem.W.fnOf x qual (defArgs st) (defBody st) (defScope st) .none kV doc pm an cdv ct) ⟨us, []⟩ = pure (ps.zip us)) : Binds K fd ps [] := by
  obtain ⟨oc, od, kV, doc, pm, an, cdv, ct, osl, rfl, lk, hcd⟩ := F.ex
  exact .all (h kV doc pm an cdv ct)
theorem fun_mk {x qual : Str} {st : Stmt} {f : Addr} {oc : Value} {od an : Option Addr} {osl : Array (Option Value)} {kV doc pm cdv ct : Value} (l : K.lookup f = some ⟨oc, od, .func (PySem.W.fnOf x qual (defArgs st) (defBody st) (defScope st) .none kV doc pm an cdv ct), osl⟩)
    (c : PySem.W.codeIn K cdv qual = true) (k : PySem.W.keepIn K (.ref f) = true) : Fun K x qual st f (PySem.W.fnOf x qual (defArgs st) (defBody st) (defScope st) .none kV doc pm an cdv ct) := ⟨⟨oc, od, kV, doc, pm, an, cdv, ct, osl, rfl, l, c⟩, k⟩
end
theorem hu_of {A : Around} {k : Nat} (hr : Room k A) : A.units + 1 < cLine := Nat.lt_of_le_of_lt (Nat.add_le_add_left (by decide : 1 ≤ 64) _) hr.units
theorem small1000 {n : Nat} (h : n ≤ 1000) : n < sizeLine := Nat.lt_of_le_of_lt h (by decide)

/-! ### expressions in short: the name that stands in the i-th slot -/
section
variable {X : Cx}
theorem pv (i : Nat) {x : Str} {pos : Pos} (hN : X.N[i]? = some x := by rfl) (hv : Vis X.env.scope x := by first | exact Or.inl rfl | exact Or.inr (Or.inl rfl) | exact Or.inr (Or.inr rfl)) (hd : (x == ("__debug__" : Str)) = false := by decide)
    (hcd : (x == ("__classdict__" : Str)) = false := by decide) : PE X (.Name x pos) (tVar i) := pe_var hN hv hd hcd
end

/-! ### tests -/
theorem iteF {A B : Prop} (h : B) : if false = true then A else B := by
  rw [if_neg Bool.false_ne_true]
  exact h
theorem iteT {A B : Prop} (h : A) : if true = true then A else B := by
  rw [if_pos rfl]
  exact h
theorem ite2 {c A B : Prop} [Decidable c] (h1 : c → A) (h2 : ¬ c → B) : if c then A else B := by
  by_cases h : c
  · rw [if_pos h]
    exact h1 h
  · rw [if_neg h]
    exact h2 h
theorem iteNS {c A B : Prop} [Decidable c] (hc : c) (h : B) : if (!decide c) = true then A else B := by
  rw [decide_eq_true hc]
  exact iteF h

/-! ### heaps -/
/-- all that was tracked is as it was -/
def Same (H H' : Hp) : Prop := ∀ b o, H b = some o → H' b = some o
theorem Same.refl (H : Hp) : Same H H := fun _ _ h => h
theorem Same.trans {H H1 H2 : Hp} (a : Same H H1) (b : Same H1 H2) : Same H H2 := fun c o h => b c o (a c o h)
theorem Same.free {H H' : Hp} (e : Same H H') {l : Addr} (h : H' l = Option.none) : H l = Option.none := by
  cases q : H l with
  | none => rfl
  | some o =>
    rw [e l o q] at h
    cases h
theorem Same.seq {K : PySem.W.Frag} {H H' : Hp} {a : Addr} {xs : List V} (e : Same H H') (h : SqL K H a xs) : SqL K H' a xs := by
  rcases h with (h | ⟨o, h⟩) | h
  · exact .inl (.inl (e _ _ h))
  · exact .inl (.inr ⟨o, e _ _ h⟩)
  · exact .inr h

end L2
set_option maxHeartbeats 4000000
/-! ### words of our own over the layer -/
namespace L2
open PySem PySem.Spec PyProof.Rows

/-! #### a def, a method, a class of the text, with all that a call asks, in one fact each -/
def Def (P : Program) (w : World) (K : PySem.W.Frag) (mg : Str → Option Value) (base : Heap) (x : Str) (k : Nat) (ps : List Str) (sp : Sp) : Prop :=
  ∃ (f : Addr) (fd : FuncData), mg x = some (.ref f) ∧ PySem.W.keepIn K (.ref f) = true ∧ Binds K fd ps [] ∧ FnOk P w K mg base CX0 k f fd ps sp
def MDef (P : Program) (w : World) (K : PySem.W.Frag) (mg : Str → Option Value) (base : Heap) (C : Addr) (m : Str) (k : Nat) (ps : List Str) (sp : Sp) : Prop :=
  Cls K C ∧ ∃ (f : Addr) (fd : FuncData), Meth K C m f ∧ Binds K fd ps [] ∧ FnOk P w K mg base CX0 k f fd ps sp
/-- the class's maker: ds the defaults that fill up (as values), dvs as V -/
def CDef (P : Program) (w : World) (K : PySem.W.Frag) (mg : Str → Option Value) (base : Heap) (x : Str) (C : Addr) (k : Nat) (ps : List Str) (dvs : List V) (sp : Sp) : Prop :=
  ∃ (f : Addr) (fd : FuncData) (ds : List Value), mg x = some (.ref C) ∧ Mk K C f ∧ Binds K fd ps ds ∧ Vals dvs ds ∧ FnOk P w K mg base CX0 k f fd ps sp
theorem Def.mono {P : Program} {w : World} {K : PySem.W.Frag} {mg : Str → Option Value} {base : Heap} {x : Str} {j k : Nat} {ps : List Str} {sp : Sp} (D : Def P w K mg base x j ps sp) (h : j ≤ k) : Def P w K mg base x k ps sp := by
  obtain ⟨f, fd, a, b, c, d⟩ := D
  exact ⟨f, fd, a, b, c, d.mono h⟩
theorem MDef.mono {P : Program} {w : World} {K : PySem.W.Frag} {mg : Str → Option Value} {base : Heap} {C : Addr} {m : Str} {j k : Nat} {ps : List Str} {sp : Sp} (D : MDef P w K mg base C m j ps sp) (h : j ≤ k) : MDef P w K mg base C m k ps sp := by
  obtain ⟨z, f, fd, a, c, d⟩ := D
  exact ⟨z, f, fd, a, c, d.mono h⟩
theorem CDef.mono {P : Program} {w : World} {K : PySem.W.Frag} {mg : Str → Option Value} {base : Heap} {x : Str} {C : Addr} {j k : Nat} {ps : List Str} {dvs : List V} {sp : Sp} (D : CDef P w K mg base x C j ps dvs sp) (h : j ≤ k) : CDef P w K mg base x C k ps dvs sp := by
  obtain ⟨f, fd, ds, a, b, c, d, e⟩ := D
  exact ⟨f, fd, ds, a, b, c, d, e.mono h⟩

section
variable {X : Cx} {k : Nat} {C : Addr} {ps : List Str} {sp : Sp} {dvs : List V} {x m : Str} {p pos apos : Pos} {e o : Expr} {es : List Expr} {ta : TE} {t : TA}
theorem pe_def (D : Def X.prog X.w X.K X.mg X.base x k ps sp) (hr : Room k X.A) (ha : PA X (e :: es) t) (hg : Gl X x := by rfl) (hdb : (x == ("__debug__" : Str)) = false := by decide)
    (he : starEach (e :: es) X.env = (false, eval e X.env) :: starEach es X.env := by rfl) (hpl : (backTo pos (starEach es X.env)).any (·.1) = false := by rfl) :
    PE X (.Call (.Name x p) (e :: es) [] pos) (tCall sp [] E0 t) := by
  obtain ⟨f, fd, hm, hk, hb, F⟩ := D
  exact pe_call F hr hg hm hk hb .nil pass0 ha hdb he hpl
theorem pe_mdef {pl : Sem Bool} (D : MDef X.prog X.w X.K X.mg X.base C m k ps sp) (hr : Room k X.A) (he : PE X o ta) (ha : PA X (e :: es) t)
    (hst : starEach (e :: es) X.env = (false, eval e X.env) :: starEach es X.env := by rfl) (hpl : (backTo pos (starEach es X.env)).any (·.1) = false := by rfl)
    (ht : eval (.Call (.Attribute o m apos) (e :: es) [] pos) X.env = (do
      let ov ← eval o X.env
      standAt apos.atName
      let (f, first) ← holding [ov] (getMethod ov m pl)
      callWith pos f first (backTo pos (starEach (e :: es) X.env)) (backToKw pos (keywordEach [] X.env))) := by rfl) :
    PE X (.Call (.Attribute o m apos) (e :: es) [] pos) (tMeth C m sp [] E0 ta t) := by
  obtain ⟨c, f, fd, hm, hb, F⟩ := D
  exact pe_meth (pl := pl) he c hm F hr hb .nil pass0 ha hst hpl ht
theorem pe_cdef (D : CDef X.prog X.w X.K X.mg X.base x C k ps dvs sp) (hr : Room (k + 1) X.A) (ha : PA X (e :: es) t) (hg : Gl X x := by rfl) (hdb : (x == ("__debug__" : Str)) = false := by decide)
    (he : starEach (e :: es) X.env = (false, eval e X.env) :: starEach es X.env := by rfl) (hpl : (backTo pos (starEach es X.env)).any (·.1) = false := by rfl) :
    PE X (.Call (.Name x p) (e :: es) [] pos) (tMake C sp dvs E0 t) := by
  obtain ⟨f, fd, ds, hm, M, hb, hd, F⟩ := D
  exact pe_make M F hr hg hm hb hd pass0 ha hdb he hpl
end

/-! #### // by a number of up to 9000 bits, * of two such -/
def CDivB (_ j : Int) : Prop := 0 < j ∧ j.natAbs.log2 < 9000
theorem op_fdivB {X : Cx} : OpR X (binaryOp .FloorDiv) (rI CDivB fun i j => .int (i / j)) := opI fun i j _ _ _ _ _ hc q => by
  refine floordiv_int (by have := hc.1; omega) ?_ (.inl (PyProof.noPylong_of_log2 hc.2))
  rw [Int.fdiv_eq_ediv_of_nonneg i (Int.le_of_lt hc.1)]
  exact q
theorem bits20 {a : Int} (h : a.natAbs < 2 ^ 1048576) : Builtin.Int.intBits a ≤ 2 ^ 20 := PyProof.Rows.intBits_le (k := 2 ^ 20) h
def CMulB (i j : Int) : Prop := i.natAbs < 2 ^ 1048576 ∧ j.natAbs < 2 ^ 1048576
theorem op_mulB {X : Cx} : OpR X (binaryOp .Mult) (rI CMulB fun i j => .int (i * j)) := opI fun i j _ _ _ _ _ hc q =>
  mul_int q (IntMulOk.of_bits (bits20 hc.1) (bits20 hc.2))

/-! #### isinstance(x, T), T a built-in type or a class of the text -/
def rIsi (K : PySem.W.Frag) : List V → Hp → VK → Prop := fun xs H Q => ∃ x c t v, xs = [x, c] ∧ TyOf K H x t ∧ ((∃ n, c = .ty n ∧ PySem.W.kitOne K t (.type n) = some v) ∨ (∃ a, c = .ref a ∧ PySem.W.kitOne K t (.ref a) = some v)) ∧ Q (.bl v) H
theorem call_isi {X : Cx} : CallR X (.builtin "isinstance") (rIsi X.K) := by
  intro pins s σ H xs us Q I r h
  obtain ⟨x, c, t, v, rfl, ty, hc, q⟩ := h
  obtain ⟨u, w', rfl, r1, r2⟩ := vals2 r
  rcases hc with ⟨n, rfl, e⟩ | ⟨a, rfl, e⟩
  · obtain rfl : w' = Value.type n := r2
    exact isinst_ok I r1 ty e fun tk => ⟨.bl v, H, I.tok _, rfl, q⟩
  · obtain rfl : w' = Value.ref a := r2
    exact isinst_ok I r1 ty e fun tk => ⟨.bl v, H, I.tok _, rfl, q⟩

/-! #### two lists of ints compared -/
def rEqL (K : PySem.W.Frag) (neg : Bool) : R2 := fun x y H Q => ∃ (a b : Addr) (ns ms : List Int), x = .ref a ∧ y = .ref b ∧ SqL K H a (ns.map V.int) ∧ SqL K H b (ms.map V.int) ∧ Q (.bl (if neg then !decide (ns = ms) else decide (ns = ms))) H
theorem op_eqL {X : Cx} (hu : X.A.units + 64 < cLine) : OpR X (compareOp .Eq) (rEqL X.K false) := by
  intro pins s σ H x y v u Q I rx ry h
  obtain ⟨a, b, ns, ms, rfl, rfl, h1, h2, q⟩ := h
  obtain rfl : v = Value.ref a := rx
  obtain rfl : u = Value.ref b := ry
  obtain ⟨i1, v1, p1, _⟩ := I.list h1
  obtain ⟨i2, v2, p2, _⟩ := I.list h2
  exact PySem.W.eq_intsK p1.isList (intsAre_of v1) p2.isList (intsAre_of v2) hu ⟨.bl _, H, I, rfl, q⟩
theorem op_neL {X : Cx} (hu : X.A.units + 64 < cLine) : OpR X (compareOp .NotEq) (rEqL X.K true) := by
  intro pins s σ H x y v u Q I rx ry h
  obtain ⟨a, b, ns, ms, rfl, rfl, h1, h2, q⟩ := h
  obtain rfl : v = Value.ref a := rx
  obtain rfl : u = Value.ref b := ry
  obtain ⟨i1, v1, p1, _⟩ := I.list h1
  obtain ⟨i2, v2, p2, _⟩ := I.list h2
  exact PySem.W.ne_intsK p1.isList (intsAre_of v1) p2.isList (intsAre_of v2) hu ⟨.bl _, H, I, rfl, q⟩

/-! #### a comprehension over a list (or another iterable that PI serves), at most one test, no exception within -/
/-- the cells that a comprehension takes along -/
def clOf (cells : List (Str × Addr)) : List (Str × NameKind) → List (Str × Addr) → List (Str × Addr)
  | [], acc => acc
  | (n, k) :: r, acc => if (k == NameKind.free) = true then clOf cells r ((n, (cells.lookup n).getD 0) :: acc) else clOf cells r acc
theorem clOf_look {cells : List (Str × Addr)} : ∀ {names : List (Str × NameKind)} {acc : List (Str × Addr)} {x : Str} {c : Addr}, (clOf cells names acc).lookup x = some c → acc.lookup x = some c ∨ ((x, NameKind.free) ∈ names ∧ (cells.lookup x).getD 0 = c)
  | [], acc, x, c, h => .inl h
  | (n, k) :: r, acc, x, c, h => by
    unfold clOf at h
    by_cases hk : (k == NameKind.free) = true
    · rw [if_pos hk] at h
      have ek : k = NameKind.free := by simpa using hk
      subst ek
      rcases clOf_look h with q | ⟨q, e⟩
      · rw [List.lookup_cons] at q
        by_cases hx : x = n
        · subst hx
          simp at q
          exact .inr ⟨by simp, q⟩
        · have : (x == n) = false := by simpa using hx
          rw [this] at q
          exact .inl q
      · exact .inr ⟨List.mem_cons_of_mem _ q, e⟩
    · rw [if_neg hk] at h
      rcases clOf_look h with q | ⟨q, e⟩
      · exact .inl q
      · exact .inr ⟨List.mem_cons_of_mem _ q, e⟩
theorem clOf_has {cells : List (Str × Addr)} : ∀ {names : List (Str × NameKind)} {acc : List (Str × Addr)} {x : Str}, ((x, NameKind.free) ∈ names ∨ (acc.lookup x).isSome = true) → ((clOf cells names acc).lookup x).isSome = true
  | [], acc, x, h => by
    rcases h with h | h
    · cases h
    · exact h
  | (n, k) :: r, acc, x, h => by
    unfold clOf
    by_cases hk : (k == NameKind.free) = true
    · rw [if_pos hk]
      by_cases hx : x = n
      · subst hx
        exact clOf_has (.inr (by simp [List.lookup_cons]))
      · have hb : (x == n) = false := by simpa using hx
        refine clOf_has ?_
        rcases h with h | h
        · rcases List.mem_cons.mp h with e | m
          · exact absurd (Prod.mk.inj e).1 hx
          · exact .inl m
        · exact .inr (by rw [List.lookup_cons, hb]; exact h)
    · rw [if_neg hk]
      refine clOf_has ?_
      rcases h with h | h
      · rcases List.mem_cons.mp h with e | m
        · exact absurd (by rw [← (Prod.mk.inj e).2]; rfl) hk
        · exact .inl m
      · exact .inr h
theorem closureFor_clOf {env : Env} {scope : Scope} (h : ∀ y ∈ scope.names, y.2 = NameKind.free → ∃ c, env.cells.lookup y.1 = some c) : closureFor scope env = pure (clOf env.cells scope.names []) := by
  have key : ∀ (names : List (Str × NameKind)) (acc : List (Str × Addr)), (∀ y ∈ names, y.2 = NameKind.free → ∃ c, env.cells.lookup y.1 = some c) →
      (forIn names acc fun x cs => do
        let (name, kind) := x
        if (kind == NameKind.free) = true then do
          let a ← cellOf env name
          pure (ForInStep.yield ((name, a) :: cs))
        else pure (ForInStep.yield cs) : Sem (List (Str × Addr))) = pure (clOf env.cells names acc) := by
    intro names
    induction names with
    | nil => intro acc _; rfl
    | cons y r ih =>
      intro acc hy
      obtain ⟨n, k⟩ := y
      rw [List.forIn_cons]
      unfold clOf
      by_cases hk : (k == NameKind.free) = true
      · obtain ⟨c, hc⟩ := hy (n, k) (by simp) (by simpa using hk)
        have ec : cellOf env n = pure c := by unfold cellOf; rw [hc]
        rw [if_pos hk]
        simp only [hk, if_true, ec, hc]
        exact ih _ fun z hz => hy z (List.mem_cons_of_mem _ hz)
      · rw [if_neg hk]
        simp only [hk, if_false]
        exact ih _ fun z hz => hy z (List.mem_cons_of_mem _ hz)
  unfold closureFor
  have q := key scope.names [] h
  simp only at q ⊢
  rw [q]
  rfl

/-- the context of a comprehension's block -/
def compCx (X : Cx) (scope : Scope) (C : Addr) (s : Shared) (H : Hp) (ex : List Addr) (N : List Str) : Cx :=
  { X with N := N, s₀ := s, H₀ := H, env := compEnvC scope (clOf X.env.cells scope.names []) C X.env, outer := X.stack, stack := X.stack, ex := ex, fn := fun _ => false, pn := [], xe := fun _ _ => False }

theorem relabel_free {scope : Scope} {env : Env} {y : Str} (h : scope.names.lookup y = some .free) : (relabel scope env).names.lookup y = some .cell ∨ (relabel scope env).names.lookup y = some .free := by
  have gen : ∀ names : List (Str × NameKind), names.lookup y = some .free →
      ((names.map fun (n, k) => if (k == NameKind.free && env.scope.kind == .function && env.kindOf n == some .cell) then (n, NameKind.cell) else (n, k)).lookup y = some .cell ∨
       (names.map fun (n, k) => if (k == NameKind.free && env.scope.kind == .function && env.kindOf n == some .cell) then (n, NameKind.cell) else (n, k)).lookup y = some .free) := by
    intro names
    induction names with
    | nil => intro h; cases h
    | cons z r ih =>
      intro h
      obtain ⟨n, k⟩ := z
      by_cases hy : y = n
      · subst hy
        simp only [List.lookup_cons, beq_self_eq_true, Option.some.injEq] at h
        subst h
        by_cases hc : env.scope.kind = .function ∧ env.kindOf y = some .cell
        · left
          simp [hc]
        · right
          simp [if_neg hc]
      · have hb : (y == n) = false := by simpa using hy
        rw [List.lookup_cons, hb] at h
        rw [List.map_cons]
        by_cases hc : (k == NameKind.free && env.scope.kind == .function && env.kindOf n == some .cell) = true
        · simp only [if_pos hc, List.lookup_cons, hb]
          exact ih h
        · simp only [if_neg hc, List.lookup_cons, hb]
          exact ih h
  exact gen scope.names h

/-- the state ahead of the block, seen from within -/
theorem Inv.comp {X : Cx} {pins : List (Addr × Obj)} {σ : St} {H : Hp} {s s4 : Shared} {scope : Scope} {fp : List Addr} {N' : List Str} {js : List Nat} {x : Str} {tk : Nat} {h4 : Heap}
    (I : Inv X pins σ H s) (hkind : scope.kind = .function) (hfr : ∀ y ∈ scope.names, y.2 = NameKind.free → X.env.scope.names.lookup y.1 = some .cell) (hfn : X.env.scope.kind = .function)
    (hcell : ∀ y ∈ scope.names, y.2 ≠ NameKind.cell)
    (hN : N' = x :: js.map fun j => X.N.getD j Str.empty) (hj : ∀ j ∈ js, j < X.N.length ∧ scope.names.lookup (X.N.getD j Str.empty) = some .free)
    (hfp : ∀ b ∈ fp, FpOk X pins H b ∧ b < s.heap.objs.size)
    (hns : h4.Ns s.heap.objs.size fun _ => none) (hsb : ∀ b o, s.heap.get? b = some o → h4.get? b = some o) (hs4 : s4 = { s with heap := h4, toks := tk }) :
    Inv (compCx X scope s.heap.objs.size s H fp N') [] (none :: js.map fun j => σ.getD j none) H s4 := by
  subst hs4
  have look : ∀ y c, (clOf X.env.cells scope.names []).lookup y = some c → X.env.cells.lookup y = some c ∧ (y, NameKind.free) ∈ scope.names := fun y c e => by
    rcases clOf_look e with q | ⟨q, e'⟩
    · cases q
    · obtain ⟨c', hc⟩ := I.ok.has y (.inl (hfr _ q rfl))
      rw [hc] at e'
      have : c' = c := e'
      subst this
      exact ⟨hc, q⟩
  have lookR : ∀ y, (relabel scope X.env).names.lookup y = some .cell ∨ (relabel scope X.env).names.lookup y = some .free → (y, NameKind.free) ∈ scope.names := fun y h => by
    have gen : ∀ names : List (Str × NameKind), (∀ z ∈ names, z.2 ≠ NameKind.cell) →
        ((names.map fun (n, k) => if (k == NameKind.free && X.env.scope.kind == .function && X.env.kindOf n == some .cell) then (n, NameKind.cell) else (n, k)).lookup y = some .cell ∨
         (names.map fun (n, k) => if (k == NameKind.free && X.env.scope.kind == .function && X.env.kindOf n == some .cell) then (n, NameKind.cell) else (n, k)).lookup y = some .free) → (y, NameKind.free) ∈ names := by
      intro names
      induction names with
      | nil => intro _ h; rcases h with h | h <;> cases h
      | cons z r ih =>
        intro hz h
        obtain ⟨n, k⟩ := z
        by_cases hy : y = n
        · subst hy
          by_cases hk : k = NameKind.free
          · subst hk; simp
          · have hk' : (k == NameKind.free) = false := by simpa using hk
            have hkc : k ≠ NameKind.cell := hz (y, k) (by simp)
            simp only [List.map_cons, hk', Bool.false_and, Bool.false_eq_true, if_false, List.lookup_cons, beq_self_eq_true] at h
            rcases h with h | h
            · exact absurd (Option.some.inj h) hkc
            · exact absurd (Option.some.inj h) hk
        · have hb : (y == n) = false := by simpa using hy
          refine List.mem_cons_of_mem _ (ih (fun z hz' => hz z (List.mem_cons_of_mem _ hz')) ?_)
          by_cases hc : (k == NameKind.free && X.env.scope.kind == .function && X.env.kindOf n == some .cell) = true
          · simp only [List.map_cons, if_pos hc, List.lookup_cons, hb] at h
            exact h
          · simp only [List.map_cons, if_neg hc, List.lookup_cons, hb] at h
            exact h
    exact gen scope.names hcell h
  have cellNe : ∀ y c, X.env.cells.lookup y = some c → c < s.heap.objs.size := fun y c e => by
    obtain ⟨v, q⟩ := I.cell y c e
    exact q.lt
  have stkNe : ∀ b ∈ frs X.stack, b < s.heap.objs.size := fun b hb => by
    rcases List.mem_cons.mp (I.stkSub b hb) with e | hb
    · rw [e]; exact I.lt
    · exact Nat.lt_of_not_le fun z => I.nofs z hb
  refine ⟨⟨I.ok.mod, hkind, I.ok.glob, I.ok.blt, Nat.le_refl _, fun y z c h1 h2 => ?_, fun y hy => ?_, fun y c hf _ => absurd hf (by simp [compCx]), I.ok.hd, I.ok.frames, .inl rfl, fun b hb => ⟨Nat.ne_of_lt (hfp b hb).2, fun y c e => ?_⟩, I.bs, Nat.le_trans I.ok.bsz I.sz, fun b o e hb => ?_, fun b hb => ?_, I.stack, I.stkFree⟩,
    rfl, I.bare, Un.kept hsb, ⟨_, hns, fun i y v h1 h2 h3 => ?_⟩, fun y c e => ?_, I.hok.fresh (Nat.le_refl _), fun y c e => I.freeC y c (look y c e).1, fun p hp => absurd (show p ∈ ([] : List (Addr × Obj)) from hp) (by simp), I.hok.kept hsb, ?_⟩
  · exact I.ok.inj y z c (look y c h1).1 (look z c h2).1
  · have := clOf_has (cells := X.env.cells) (acc := []) (x := y) (.inl (lookR y hy))
    exact Option.isSome_iff_exists.mp this
  · exact (hfp b hb).1.2.2.2.2.1 y c (look y c e).1
  · rcases (hfp b hb).1.2.2.2.1 with z | z
    · exact I.ok.noex b o e z
    · exact absurd (Nat.lt_of_lt_of_le (Heap.lt_size (I.ok.bs b o e).1) z) (Nat.lt_irrefl _)
  · intro hb'
    rcases List.mem_cons.mp (I.stkSub b hb') with z | z
    · exact (hfp b hb).1.2.1 z
    · exact (hfp b hb).1.2.2.1 z
  · subst hN
    cases i with
    | zero => cases h2
    | succ i =>
      have h1' : (js.map fun j => X.N.getD j Str.empty)[i]? = some y := h1
      have h2' : (js.map fun j => σ.getD j none)[i]? = some (some v) := h2
      rw [List.getElem?_map] at h1' h2'
      cases e : js[i]? with
      | none => rw [e] at h1'; cases h1'
      | some j =>
        rw [e] at h1' h2'
        obtain ⟨hjl, hjf⟩ := hj j (List.mem_of_getElem? e)
        have e1 : X.N[j]? = some y := by
          have : X.N.getD j Str.empty = y := Option.some.inj h1'
          rw [← this, List.getD_eq_getElem?_getD, List.getElem?_eq_getElem hjl]; rfl
        have hjs : j < σ.length := by rw [I.len]; exact hjl
        have e2 : σ[j]? = some (some v) := by
          have : σ.getD j none = some v := Option.some.inj h2'
          rw [List.getElem?_eq_getElem hjs, ← this, List.getD_eq_getElem?_getD, List.getElem?_eq_getElem hjs]; rfl
        have ey : X.N.getD j Str.empty = y := Option.some.inj h1'
        rw [ey] at hjf
        have mem : (y, NameKind.free) ∈ scope.names := PySem.mem_of_lookup hjf
        have hk := hfr _ mem rfl
        obtain ⟨m, _, hl⟩ := I.loc
        obtain ⟨u, ru, lk⟩ := hl j y v e1 e2 (.inr (.inl hk))
        refine ⟨u, ru, .inr ⟨relabel_free hjf, ?_⟩⟩
        rcases lk with ⟨k, _⟩ | ⟨_, c, hc, z⟩
        · have k' : X.env.scope.names.lookup y = some .local := k
          rw [hk] at k'
          cases k'
        · obtain ⟨c', hc'⟩ := Option.isSome_iff_exists.mp (clOf_has (cells := X.env.cells) (acc := []) (x := y) (.inl mem))
          have e3 := (look y c' hc').1
          rw [hc] at e3
          cases e3
          exact ⟨c, hc', z.keeps hsb⟩
  · obtain ⟨v, q⟩ := I.cell y c (look y c e).1
    exact ⟨v, q.keeps hsb⟩
  · subst hN
    show (none :: js.map fun j => σ.getD j none).length = (x :: js.map fun j => X.N.getD j Str.empty).length
    simp

/-- the tests of a comprehension, all of them -/
abbrev testsOf (ifs : List Expr) (env : Env) : Sem Bool := forIn ifs true fun c r => if r = true then do let ok ← isTrue c env (eval c env); pure (ForInStep.yield ok) else pure (ForInStep.yield r)
/-- a turn of a comprehension that has drawn v: v stored, the tests asked, the element reckoned and gathered; more is what must hold for the next turn -/
def TurnG (M : Model) (A : Around) (tg el : Expr) (ifs : List Expr) (it g : Value) (env : Env) (more : Shared → Prop) (v : Value) (s : Shared) : Prop :=
  wpAny M A (letOwnedTupleGo tg it v) (fun _ s2 => wpAny M A (assign tg env v) (fun _ s3 => wpAny M A (testsOf ifs env) (fun ok s4 =>
    if ok = true then wpAny M A (eval el env) (fun y s5 => wpAny M A (call (.builtin "list.append") [g, y]) (fun _ s6 => more s6) (fun _ _ => False) s5) (fun _ _ => False) s4 else more s4)
      (fun _ _ => False) s3) (fun _ _ => False) s2) (fun _ _ => False) s
/-- the comprehension's loop -/
theorem comp_loop {prog : Program} {w : World} {A : Around} {R : Result → Shared → Prop} {s : Shared} {el tg iter : Expr} {ifs : List Expr} {sc : Scope} {pos : Pos} {it g : Value} {env : Env} (J : Nat → Shared → Prop)
    (turn : ∀ n s1, J n s1 → wpAny (model prog w) A (pyNext it) (fun r s2 => (r = none ∧ R (.ok .next) s2) ∨ ∃ v, r = some v ∧ TurnG (model prog w) A tg el ifs it g env (fun s3 => ∃ m, m < n ∧ J m s3) v s2) (fun _ _ => False) s1)
    (n : Nat) (h0 : J n s) : codeAny (model prog w) A (.compLoop (.ListComp el [⟨tg, iter, ifs, 0⟩] sc pos) 0 it g env) R s := by
  apply codeAny_loop rfl J ?_ n h0
  intro n1 s1 h1
  apply wpAny_noted
  rw [compTurn_list]
  apply wpAny_bind
  apply wpAny_standAt
  apply wpAny_bind
  refine wpAny_mono (turn n1 s1 h1) (fun r s2 h2 => ?_) (fun _ _ z => z.elim)
  rcases h2 with ⟨rfl, q⟩ | ⟨v, rfl, h2⟩
  · exact wpAny_pure q
  apply wpAny_bind
  refine wpAny_mono h2 (fun _ s3 h3 => ?_) (fun _ _ z => z.elim)
  apply wpAny_bind
  refine wpAny_mono h3 (fun _ s4 h4 => ?_) (fun _ _ z => z.elim)
  apply wpAny_bind
  refine wpAny_mono h4 (fun ok s5 h5 => ?_) (fun _ _ z => z.elim)
  by_cases yes : ok = true
  · subst yes
    rw [if_pos rfl] at h5
    apply wpAny_bind
    apply wpAny_bind
    refine wpAny_mono h5 (fun y s6 h6 => ?_) (fun _ _ z => z.elim)
    apply wpAny_bind
    refine wpAny_mono h6 (fun _ s7 h7 => ?_) (fun _ _ z => z.elim)
    exact wpAny_pure (wpAny_pure ⟨rfl, h7⟩)
  · rw [if_neg yes] at h5
    rw [Bool.eq_false_iff.mpr yes]
    exact wpAny_pure ⟨rfl, h5⟩

/-- the tests of a comprehension: none or one -/
def PIfs (X : Cx) (ifs : List Expr) (t : TT) : Prop :=
  ∀ (pins : List (Addr × Obj)) (s : Shared) (σ : St) (H : Hp) (Q : Bool → Hp → Prop), Inv X pins σ H s → t σ H Q →
    wpAny (model X.prog X.w) X.A (forIn ifs true fun c r => if r = true then do let ok ← isTrue c X.env (eval c X.env); pure (ForInStep.yield ok) else pure (ForInStep.yield r)) (TP X pins σ Q) X.xe s
def tYes : TT := fun _ H Q => Q true H
theorem pf_none {X : Cx} : PIfs X [] tYes := fun _ _ _ H _ I h => wpAny_tests_nil ⟨H, I, h⟩
theorem pf_one {X : Cx} {c : Expr} {t : TT} (h : PT X c t) : PIfs X [c] t := fun pins s σ H Q I q => wpAny_tests_one (h pins s σ H Q I q)

/-- W: turn, measure, what is gathered, the heap -/
def tComp (js : List Nat) (wi : TI) (tt : TT) (te : TE) : TE := fun σ H Q => wi σ H fun J H1 => ∀ D, H1 D = none →
  ∃ W : Nat → Nat → List V → Hp → Prop, (∃ m, W 0 m [] (upd H1 D (.lst []))) ∧ ∀ i m ys H2, W i m ys H2 → H2 D = some (.lst ys) ∧
    ((J.stop i H2 ∧ Q (.ref D) H2) ∨ (J.go i H2 ∧ ys.length < sizeLine ∧ ∀ v H3, J.yld i H2 v H3 → tt (some v :: js.map fun j => σ.getD j none) H3 fun b H4 =>
      if b = true then te (some v :: js.map fun j => σ.getD j none) H4 fun y H5 => H5 D = some (.lst ys) ∧ ∃ m', m' < m ∧ W (i + 1) m' (ys ++ [y]) (upd H5 D (.lst (ys ++ [y])))
      else ∃ m', m' < m ∧ W (i + 1) m' ys H4))
theorem pe_comp {X : Cx} {elt iter : Expr} {ifs : List Expr} {scope : Scope} {x : Str} {px pos : Pos} {wi : TI} {tt : TT} {te : TE} (js : List Nat) (N' : List Str)
    (hp : X.calm = true) (hi : PI X (.Name x px) iter wi)
    (ht : ∀ C s H ex, PIfs (compCx X scope C s H ex N') ifs tt) (he : ∀ C s H ex, PE (compCx X scope C s H ex N') elt te)
    (hkind : scope.kind = .function := by rfl) (hfn : X.env.scope.kind = .function := by rfl)
    (hfr : (scope.names.all fun y => y.2 != NameKind.free || X.env.scope.names.lookup y.1 == some .cell) = true := by rfl)
    (hnc : (scope.names.all fun y => y.2 != NameKind.cell && (y.2 != NameKind.local || scope.names.lookup y.1 == some .local)) = true := by rfl)
    (hx : scope.names.lookup x = some .local := by rfl)
    (hN : N' = x :: js.map fun j => X.N.getD j Str.empty := by rfl) (hj : (js.all fun j => decide (j < X.N.length) && scope.names.lookup (X.N.getD j Str.empty) == some .free) = true := by rfl)
    (hnd : N'.Nodup := by decide +kernel)
    (hs : ∀ x, foldedSetIterable iter X.env x = pure x := by intro _; rfl) :
    PE X (.ListComp elt [⟨.Name x px, iter, ifs, 0⟩] scope pos) (tComp js wi tt te) := by
  intro pins s σ H Q I h
  have hfr' : ∀ y ∈ scope.names, y.2 = NameKind.free → X.env.scope.names.lookup y.1 = some .cell := fun y hy e => by
    have := List.all_eq_true.mp hfr y hy
    rw [e] at this
    simpa using this
  have hnc' : ∀ y ∈ scope.names, y.2 ≠ NameKind.cell := fun y hy => by
    have := List.all_eq_true.mp hnc y hy
    rw [Bool.and_eq_true] at this
    simpa using this.1
  have hnl : ∀ y ∈ scope.names, y.2 = NameKind.local → scope.names.lookup y.1 = some .local := fun y hy e => by
    have := List.all_eq_true.mp hnc y hy
    rw [Bool.and_eq_true] at this
    have := this.2
    rw [e] at this
    simpa using this
  have hj' : ∀ j ∈ js, j < X.N.length ∧ scope.names.lookup (X.N.getD j Str.empty) = some .free := fun j hj1 => by
    have := List.all_eq_true.mp hj j hj1
    rw [Bool.and_eq_true] at this
    exact ⟨of_decide_eq_true this.1, by simpa using this.2⟩
  have hclos : closureFor scope X.env = pure (clOf X.env.cells scope.names []) := closureFor_clOf fun y hy e => I.ok.has y.1 (.inl (hfr' y hy e))
  rw [eval_ListComp]
  refine wpAny_comprehension_free (use := none) rfl hs hclos hkind hnl (thn (hi pins s σ H _ I h) fun xv s1 h1 => thn h1 fun itv s2 h2 => ?_)
  obtain ⟨it, fp, tn, J, H2, rfl, I2, T, st2, f2, hD⟩ := h2
  have hfresh : H2 s2.heap.objs.size = none := I2.hok.fresh (Nat.le_refl _)
  obtain ⟨W, ⟨m0, w0⟩, step⟩ := hD _ hfresh
  have I3 : Inv X pins σ (upd H2 s2.heap.objs.size (.lst [])) { s2 with heap := s2.heap.push { cls := .type "list", dict := none, data := .seq ([] : List Value).toArray } } :=
    I2.laid (t' := s2.toks) (fun b u e => Heap.get?_push_of_some _ e) (Nat.le_refl _) ⟨Nat.zero_le _, [], 0, .nil, Heap.get?_push_size _ rfl⟩
  have tn3 : tn 0 (s2.heap.push { cls := .type "list", dict := none, data := .seq ([] : List Value).toArray }) := T.keep _ _ _ st2 fun b _ o e => Heap.get?_push_of_some _ e
  have fpl : ∀ b ∈ fp, b < s2.heap.objs.size := fun b hb => by
    obtain ⟨o, e, _⟩ := T.obj _ _ st2 b hb
    exact Heap.lt_size e
  refine wpAny_newObj_type (wpAny_newFunctionEnv hnc' (by intro y hy; simp at hy) (fun h4 hns4 hsb4 => ?_) hkind)
  generalize hs3 : ({ s2 with heap := s2.heap.push { cls := .type "list", dict := none, data := .seq ([] : List Value).toArray } } : Shared) = s3 at I3 hns4 hsb4 ⊢
  generalize hH3 : upd H2 s2.heap.objs.size (.lst []) = H3 at I3 w0
  have e3 : s3.heap = s2.heap.push { cls := .type "list", dict := none, data := .seq ([] : List Value).toArray } := by rw [← hs3]
  have sz3 : s3.heap.objs.size = s2.heap.objs.size + 1 := by rw [e3, Heap.size_push]
  have hk4 : ∀ b o, s3.heap.get? b = some o → h4.get? b = some o := fun b o e => hsb4.extBut b o (Nat.ne_of_lt (Heap.lt_size e)) (Heap.get?_push_of_some _ e)
  have nD : ∀ b ∈ fp, b ≠ s2.heap.objs.size := fun b hb => Nat.ne_of_lt (fpl b hb)
  have f3 : ∀ b ∈ fp, FpOk X pins H3 b ∧ b < s3.heap.objs.size := fun b hb => ⟨⟨by rw [← hH3, upd_ne (nD b hb)]; exact (f2 b hb).1, (f2 b hb).2⟩, by rw [sz3]; exact Nat.lt_succ_of_lt (fpl b hb)⟩
  have I4 := I3.comp (x := x) (js := js) (N' := N') hkind hfr' hfn hnc' hN hj' f3 (h4 := h4) (tk := s3.toks + ([] : List (Str × Value)).length) (by simpa using hns4) hk4 rfl
  -- the block's context
  generalize hX : compCx X scope s3.heap.objs.size s3 H3 fp N' = X' at I4
  have Xp : X'.prog = X.prog := by rw [← hX]; rfl
  have Xw : X'.w = X.w := by rw [← hX]; rfl
  have XK : X'.K = X.K := by rw [← hX]; rfl
  have XA : X'.A = X.A := by rw [← hX]; rfl
  have Xc : X'.calm = true := by rw [← hX]; exact hp
  have Xe : X'.env = compEnvC scope (clOf X.env.cells scope.names []) s3.heap.objs.size X.env := by rw [← hX]; rfl
  have Xx : X'.xe = fun _ _ => False := by rw [← hX]; rfl
  have XN : X'.N = N' := by rw [← hX]; rfl
  have XH : X'.H₀ = H3 := by rw [← hX]; rfl
  have Xs : X'.s₀ = s3 := by rw [← hX]; rfl
  have Xf : X'.fs = frs X.stack := by rw [← hX]; rfl
  have Xex : X'.ex = fp := by rw [← hX]; rfl
  have Xpn : X'.pn = [] := by rw [← hX]; rfl
  have htX := ht s3.heap.objs.size s3 H3 fp
  have heX := he s3.heap.objs.size s3 H3 fp
  rw [hX] at htX heX
  have fpX : ∀ {H' : Hp}, (∀ b ∈ fp, H' b = none) → ∀ b ∈ fp, FpOk X' [] H' b := fun {H'} hn b hb => by
    obtain ⟨⟨_, g1, g2, g3, g4, g5⟩, gl⟩ := f3 b hb
    refine ⟨hn b hb, by rw [Xe]; exact Nat.ne_of_lt gl, ?_, .inl (by rw [Xex]; exact hb), fun y c e => ?_, fun p hp => by rw [Xpn] at hp; exact absurd hp (by simp)⟩
    · rw [Xf]
      intro z
      rcases List.mem_cons.mp (I3.stkSub b z) with z | z
      · exact g1 z
      · exact g2 z
    · rw [Xe] at e
      rcases clOf_look (show (clOf X.env.cells scope.names []).lookup y = some c from e) with q | ⟨q, e'⟩
      · cases q
      · obtain ⟨c', hc⟩ := I.ok.has y (.inl (hfr' _ q rfl))
        rw [hc] at e'
        exact g4 y c (by rw [hc]; exact congrArg some e')
  have loop : codeAny (model X.prog X.w) X.A (.compLoop (.ListComp elt [⟨.Name x px, iter, ifs, 0⟩] scope pos) 0 (.ref it) (.ref s2.heap.objs.size) (compEnvC scope (clOf X.env.cells scope.names []) s3.heap.objs.size X.env))
      (compPost (model X.prog X.w) X.A X.xe none (EP X pins σ Q) (.ref s2.heap.objs.size) s3.heap.objs.size) { s3 with heap := h4, toks := s3.toks + ([] : List (Str × Value)).length } := by
    refine comp_loop (fun n s' => ∃ i ys ov H', Inv X' [] (ov :: js.map fun j => σ.getD j none) H' s' ∧ tn i s'.heap ∧ (∀ b ∈ fp, H' b = none) ∧ W i n ys H') ?_ m0
      ⟨0, [], none, H3, I4, T.keep _ _ _ tn3 (fun b _ o e => hk4 b o (by rw [e3]; exact e)), fun b hb => (f3 b hb).1.1, w0⟩
    rintro n s5 ⟨i, ys, ov, H5, I5, tn5, fr5, w5⟩
    obtain ⟨hDl, alt⟩ := step i n ys H5 w5
    rcases alt with ⟨stop, q⟩ | ⟨go, hsz, turn⟩
    · have T1 := T.done X' Xp Xw XK Xc i [] s5 _ H5 (fun _ _ => False) I5 (fpX fr5) tn5 stop
      rw [XA] at T1
      refine thn T1 fun r s6 ⟨hr, I6⟩ => .inl ⟨hr, ?_⟩
      obtain ⟨m6, hn6, _⟩ := I6.loc
      rw [Xe] at hn6
      refine ⟨m6, hn6, fun h7 hs7 => ?_⟩
      have un := I6.base
      rw [Xf, Xex, XH, Xs] at un
      have hok6 := I6.hok
      rw [Xp, Xw] at hok6
      have os6 := I6.os
      rw [Xs] at os6
      have J6 : Inv X pins σ H5 s6 := I3.call' (ch := fp) os6 un hok6 I6.bare fun b hb => ⟨(f2 b hb).2.2.2.1, (f2 b hb).2.1, (f2 b hb).2.2.2.2.1, (f2 b hb).2.2.2.2.2⟩
      have free6 := I6.free
      rw [Xe] at free6
      have J7 : Inv X pins σ H5 { s6 with heap := h7 } := by
        refine J6.turned (t' := s6.toks) (it := s3.heap.objs.size) (fun b o hb e => hs7.extBut b o hb e) free6 (Nat.ne_of_gt I3.lt) (.inr I3.sz) (fun y c e z => ?_) fun p hp z => ?_
        · obtain ⟨v, q⟩ := I3.cell y c e
          exact absurd q.lt (by rw [z]; exact Nat.lt_irrefl _)
        · exact absurd (Heap.lt_size (I3.pin p hp).1) (by rw [z]; exact Nat.lt_irrefl _)
      exact ⟨.ref s2.heap.objs.size, H5, J7, rfl, q⟩
    · have T1 := T.item X' Xp Xw XK Xc i [] s5 _ H5 (fun _ _ => False) I5 (fpX fr5) tn5 go
      rw [XA] at T1
      refine thn T1 fun r s6 ⟨u, hr, h6⟩ => .inr ⟨u, hr, ?_⟩
      refine thn h6 fun _ s7 ⟨v, H7, I7, r7, y7, tn7, fr7⟩ => ?_
      have I7' := I7.pinned (fpX fr7) (T.obj _ _ tn7)
      have back : ∀ {s8 : Shared} {ov' : Option V} {H8 : Hp}, Inv X' ([] ++ pinsAt fp s7.heap) (ov' :: js.map fun j => σ.getD j none) H8 s8 → Inv X' [] (ov' :: js.map fun j => σ.getD j none) H8 s8 ∧ tn (i + 1) s8.heap ∧ ∀ b ∈ fp, H8 b = none := fun {s8 ov' H8} I8 => by
        refine ⟨I8.unpinned, T.keep _ _ _ tn7 fun b hb o e => (I8.pin (b, o) (List.mem_append_right _ (List.mem_append_right _ (mem_pinsAt hb e)))).1, fun b hb => ?_⟩
        obtain ⟨o, e, _⟩ := T.obj _ _ tn7 b hb
        exact (I8.pin (b, o) (List.mem_append_right _ (List.mem_append_right _ (mem_pinsAt hb e)))).2.1
      have hxl : X'.env.scope.names.lookup x = some .local := by rw [Xe]; exact lookup_relabel_local hx
      have P1 := pg_name (X := X') (i := 0) (x := x) (pos := px) (by rw [XN]; exact hnd) (by rw [XN, hN]; rfl) (.inl hxl) (.inr hxl) _ s7 _ H7 v u (fun σ8 H8 => σ8 = (some v :: js.map fun j => σ.getD j none) ∧ H8 = H7) I7' r7 ⟨rfl, rfl⟩
      rw [Xp, Xw, XA, Xe, Xx] at P1
      refine thn P1 fun _ s8 ⟨σ8, H8, I8, e8, e8'⟩ => ?_
      subst e8
      subst e8'
      have P2 := htX _ s8 _ H8 _ I8 (turn v H8 y7)
      rw [Xp, Xw, XA, Xe, Xx] at P2
      refine thn P2 fun b s9 ⟨H9, I9, q9⟩ => ?_
      cases b with
      | false =>
        rw [if_neg Bool.false_ne_true] at q9 ⊢
        obtain ⟨m', hm, w9⟩ := q9
        obtain ⟨J9, t9, f9⟩ := back I9
        exact ⟨m', hm, i + 1, ys, some v, H9, J9, t9, f9, w9⟩
      | true =>
        rw [if_pos rfl] at q9 ⊢
        have P3 := heX _ s9 _ H9 _ I9 q9
        rw [Xp, Xw, XA, Xe, Xx] at P3
        refine thn P3 fun z s10 ⟨y, H10, I10, r10, hD10, m', hm, w10⟩ => ?_
        have P4 := mt_append (X := X') _ s10 _ H10 (.ref s2.heap.objs.size) [y] (.ref s2.heap.objs.size) [z] (fun v8 H11 => H11 = upd H10 s2.heap.objs.size (.lst (ys ++ [y]))) I10 rfl (.cons r10 .nil) ⟨_, ys, y, rfl, rfl, hD10, hsz, rfl⟩
        rw [Xp, Xw, XA, Xx] at P4
        refine thn P4 fun _ s11 ⟨_, H11, I11, _, e11⟩ => ?_
        subst e11
        obtain ⟨J11, t11, f11⟩ := back I11
        exact ⟨m', hm, i + 1, ys ++ [y], some v, _, J11, t11, f11, w10⟩
  refine codeAny_compStart_list loop ?_
  exact T.self _ 0 _ _ _ (T.keep _ _ _ tn3 fun b _ o e => hk4 b o (by rw [e3]; exact e)) loop

/-- the plain case: over a list, the test and the element change nothing -/
theorem comp_list {K : PySem.W.Frag} {js : List Nat} {a : Addr} {xs : List V} {tt : TT} {te : TE} {σ : St} {H : Hp} {Q : VK} (p : V → Bool) (f : V → V) (hl : SqL K H a xs) (hz : xs.length ≤ sizeLine)
    (htt : ∀ (v : V), v ∈ xs → ∀ (H' : Hp) (R : Bool → Hp → Prop), Same H H' → R (p v) H' → tt (some v :: js.map fun j => σ.getD j none) H' R)
    (hte : ∀ (v : V), v ∈ xs → p v = true → ∀ (H' : Hp) (R : V → Hp → Prop), Same H H' → R (f v) H' → te (some v :: js.map fun j => σ.getD j none) H' R)
    (hq : ∀ D, H D = none → Q (.ref D) (upd H D (.lst ((xs.filter p).map f)))) :
    ∀ D, H D = none →
  ∃ W : Nat → Nat → List V → Hp → Prop, (∃ m, W 0 m [] (upd H D (.lst []))) ∧ ∀ i m ys H2, W i m ys H2 → H2 D = some (.lst ys) ∧
    (((Itl K a).stop i H2 ∧ Q (.ref D) H2) ∨ ((Itl K a).go i H2 ∧ ys.length < sizeLine ∧ ∀ v H3, (Itl K a).yld i H2 v H3 → tt (some v :: js.map fun j => σ.getD j none) H3 fun b H4 =>
      if b = true then te (some v :: js.map fun j => σ.getD j none) H4 fun y H5 => H5 D = some (.lst ys) ∧ ∃ m', m' < m ∧ W (i + 1) m' (ys ++ [y]) (upd H5 D (.lst (ys ++ [y])))
      else ∃ m', m' < m ∧ W (i + 1) m' ys H4)) := by
  intro D hD
  refine ⟨fun i m ys H2 => m = xs.length - i ∧ i ≤ xs.length ∧ ys = ((xs.take i).filter p).map f ∧ H2 = upd H D (.lst ys), ⟨_, rfl, Nat.zero_le _, by simp, rfl⟩, ?_⟩
  rintro i m ys H2 ⟨rfl, hi, hys, rfl⟩
  have sm : Same H (upd H D (.lst ys)) := fun b o e => by rw [upd_ne (ne_of_none e hD)]; exact e
  have hl2 : SqL K (upd H D (.lst ys)) a xs := sm.seq hl
  refine ⟨upd_same, ?_⟩
  by_cases hlt : i < xs.length
  · refine .inr ⟨⟨xs, xs[i], hl2, by simp [hlt]⟩, ?_, fun v H3 y => ?_⟩
    · have h1 : ys.length ≤ (xs.take i).length := by rw [hys, List.length_map]; exact List.length_filter_le _ _
      rw [List.length_take] at h1
      omega
    · obtain ⟨e, y⟩ := y
      subst e
      have hv := y xs hl2
      have hm : v ∈ xs := List.mem_of_getElem? hv
      have tk := take_succ_filter p xs i v hv
      refine htt v hm _ _ sm ?_
      cases hpv : p v with
      | false =>
        rw [if_neg Bool.false_ne_true]
        refine ⟨xs.length - (i + 1), by omega, rfl, hlt, ?_, rfl⟩
        rw [tk, hpv]
        simpa using hys
      | true =>
        rw [if_pos rfl]
        refine hte v hm hpv _ _ sm ⟨upd_same, xs.length - (i + 1), by omega, rfl, hlt, ?_, upd_upd⟩
        rw [tk, hpv, hys]
        simp
  · have e : i = xs.length := by omega
    refine .inl ⟨⟨xs, hl2, by omega⟩, ?_⟩
    have e2 : ys = (xs.filter p).map f := by rw [hys, e, List.take_length]
    rw [e2]
    exact hq D hD
end L2
/-! ### the text's defs as they stand behind the top; what a reading uses -/
namespace L2
open PySem PySem.Spec PyProof.Rows
theorem bt_len : bootBuiltins "len" = some (.builtin "len") := PySem.boot_len
theorem bt_list : bootBuiltins "list" = some (.type "list") := by first | exact PyProof.Rows.boot_list | exact boot_list
theorem bt_tuple : bootBuiltins "tuple" = some (.type "tuple") := by first | exact PyProof.Rows.boot_tuple | exact boot_tuple
theorem bt_int : bootBuiltins "int" = some (.type "int") := by first | exact PyProof.Rows.boot_int | exact boot_int
theorem bt_bool : bootBuiltins "bool" = some (.type "bool") := by first | exact PyProof.Rows.boot_bool | exact boot_bool
theorem bt_str : bootBuiltins "str" = some (.type "str") := by first | exact PyProof.Rows.boot_str | exact boot_str
theorem bt_isinstance : bootBuiltins "isinstance" = some (.builtin "isinstance") := by first | exact PyProof.Rows.boot_isinstance | exact boot_isinstance
theorem bt_max : bootBuiltins "max" = some (.builtin "max") := by first | exact PyProof.Rows.boot_max | exact boot_max
theorem bt_min : bootBuiltins "min" = some (.builtin "min") := by first | exact PyProof.Rows.boot_min | exact boot_min

/-- a def of the top stands there -/
def Has (K : PySem.W.Frag) (mg : Str → Option Value) (x : Str) (st : Stmt) (ps : List Str) : Prop := ∃ (f : Addr) (fd : FuncData), Fun K x x st f fd ∧ mg x = some (.ref f) ∧ Binds K fd ps []
theorem has_mk {K : PySem.W.Frag} {h : Heap} {mg : Str → Option Value} {x : Str} {st : Stmt} {ps : List Str} {f : Addr} {oc : Value} {od an : Option Addr} {osl : Array (Option Value)} {kV doc pm cdv ct : Value} (X : K.In h) (G : h.Ns mainGlobals mg)
    (a : PySem.W.nsIn K mainGlobals x = some (some (.ref f))) (l : K.lookup f = some ⟨oc, od, .func (PySem.W.fnOf x x (defArgs st) (defBody st) (defScope st) .none kV doc pm an cdv ct), osl⟩) (c : PySem.W.codeIn K cdv x = true) (k : PySem.W.keepIn K (.ref f) = true)
    (hb : ∀ (kV doc pm : Value) (an : Option Addr) (cdv ct : Value) (us : List Value), us.length = ps.length → bindArgs (PySem.W.fnOf x x (defArgs st) (defBody st) (defScope st) .none kV doc pm an cdv ct) ⟨us, []⟩ = pure (ps.zip us)) : Has K mg x st ps :=
  let F := fun_mk l c k
  ⟨f, _, F, PySem.W.mg_of X G a, F.binds hb⟩
/-- a method of the class at C (no default) -/
def HasM (K : PySem.W.Frag) (C : Addr) (m qual : Str) (st : Stmt) (ps : List Str) : Prop := ∃ (f : Addr) (fd : FuncData), Fun K m qual st f fd ∧ Meth K C m f ∧ Binds K fd ps []
theorem hasM_mk {K : PySem.W.Frag} {C : Addr} {m qual : Str} {st : Stmt} {ps : List Str} {f : Addr} {oc : Value} {od an : Option Addr} {osl : Array (Option Value)} {kV doc pm cdv ct : Value}
    (a : PySem.W.findIn K (.ref C) m = some (some (.ref f))) (i : PySem.W.isFn K (.ref f) = true) (l : K.lookup f = some ⟨oc, od, .func (PySem.W.fnOf m qual (defArgs st) (defBody st) (defScope st) .none kV doc pm an cdv ct), osl⟩) (c : PySem.W.codeIn K cdv qual = true) (k : PySem.W.keepIn K (.ref f) = true)
    (hb : ∀ (kV doc pm : Value) (an : Option Addr) (cdv ct : Value) (us : List Value), us.length = ps.length → bindArgs (PySem.W.fnOf m qual (defArgs st) (defBody st) (defScope st) .none kV doc pm an cdv ct) ⟨us, []⟩ = pure (ps.zip us)) : HasM K C m qual st ps :=
  let F := fun_mk l c k
  ⟨f, _, F, ⟨a, i, k⟩, F.binds hb⟩
/-- a def with defaults: the tuple at T holds them -/
structure FunD (K : PySem.W.Frag) (x qual : Str) (st : Stmt) (ds : List Value) (f : Addr) (fd : FuncData) : Prop where
  ex : ∃ (oc : Value) (od : Option Addr) (T : Addr) (kV doc pm : Value) (an : Option Addr) (cdv ct : Value) (osl : Array (Option Value)),
    fd = PySem.W.fnOf x qual (defArgs st) (defBody st) (defScope st) (.ref T) kV doc pm an cdv ct ∧ K.lookup f = some ⟨oc, od, .func fd, osl⟩ ∧ PySem.W.codeIn K cdv qual = true ∧
    ∃ (tc : Value) (td : Option Addr) (n : Nat) (ts : Array (Option Value)), K.lookup T = some ⟨tc, td, .seq ds.toArray n, ts⟩
section
variable {P : Program} {w : World} {K : PySem.W.Frag} {mg : Str → Option Value} {base : Heap}
theorem FunD.ok {x qual : Str} {st : Stmt} {ds : List Value} {f : Addr} {fd : FuncData} {N ps : List Str} {k : Nat} {sp : Sp} (F : FunD K x qual st ds f fd) (S : FnScope N ps (defScope st)) (len : ∀ vs H Q E, sp vs H Q E → vs.length = ps.length)
    (hbody : ∀ (cdv : Value) (A : Around) (outer : List Env) (s : Shared) (H : Hp) (vs : List V) (Q : VK) (E : XK), Room k (A.deeper (envOfC qual (defScope st) s.heap.objs.size f cdv)) → sp vs H Q E →
      ∃ t, PSs (cxOf CX0 P w K mg base N qual (defScope st) f cdv A outer s H E).nox (defBody st) t ∧ t { nx := fun _ H' => Q .non H', rt := Q } (start N vs) H) : FnOk P w K mg base CX0 (k + 1) f fd ps sp := by
  obtain ⟨oc, od, T, kV, doc, pm, an, cdv, ct, osl, rfl, lk, hcd, _⟩ := F.ex
  refine fn_of lk hcd S len fun A outer s H vs Q E hr hsp => ?_
  obtain ⟨t, h, q⟩ := hbody cdv A outer s H vs Q E hr hsp
  exact ⟨t, h.nox, q⟩
/-- us given, the rest by the defaults ds' (a tail of ds): h says how, g that the defaults are looked at first -/
theorem FunD.binds {x qual : Str} {st : Stmt} {ds ds' : List Value} {f : Addr} {fd : FuncData} {ps : List Str} (F : FunD K x qual st ds f fd)
    (h : ∀ (T : Addr) (kV doc pm : Value) (an : Option Addr) (cdv ct : Value) (us : List Value), (us ++ ds').length = ps.length →
      bindArgs (PySem.W.fnOf x qual (defArgs st) (defBody st) (defScope st) (.ref T) kV doc pm an cdv ct) ⟨us, []⟩ = pure (ps.zip (us ++ ds')) ∨
      ∃ k : Option (Array Value) → Sem (List (Str × Value)), bindArgs (PySem.W.fnOf x qual (defArgs st) (defBody st) (defScope st) (.ref T) kV doc pm an cdv ct) ⟨us, []⟩ = (seqItems? (.ref T) >>= k) ∧ k (some ds.toArray) = pure (ps.zip (us ++ ds'))) : Binds K fd ps ds' := by
  obtain ⟨oc, od, T, kV, doc, pm, an, cdv, ct, osl, rfl, lk, hcd, tc, td, n, ts, lt⟩ := F.ex
  intro s us KX hl
  rcases h T kV doc pm an cdv ct us hl with e | ⟨k, e1, e2⟩
  · exact .of_eq e
  · exact .of_defaults (T := T) rfl (KX _ _ lt) rfl e1 e2
theorem funD_mk {x qual : Str} {st : Stmt} {ds : List Value} {f T : Addr} {oc tc : Value} {od an td : Option Addr} {n : Nat} {osl ts : Array (Option Value)} {kV doc pm cdv ct : Value}
    (l : K.lookup f = some ⟨oc, od, .func (PySem.W.fnOf x qual (defArgs st) (defBody st) (defScope st) (.ref T) kV doc pm an cdv ct), osl⟩)
    (c : PySem.W.codeIn K cdv qual = true) (t : K.lookup T = some ⟨tc, td, .seq ds.toArray n, ts⟩) : FunD K x qual st ds f (PySem.W.fnOf x qual (defArgs st) (defBody st) (defScope st) (.ref T) kV doc pm an cdv ct) :=
  ⟨oc, od, T, kV, doc, pm, an, cdv, ct, osl, rfl, l, c, tc, td, n, ts, t⟩
end

/-! #### what a reading uses -/
theorem inV_ints (c : Int) (ts : List Int) : inV (.int c) (ts.map V.int) = decide (c ∈ ts) := by
  unfold inV
  induction ts with
  | nil => rfl
  | cons t r ih =>
    rw [List.map_cons, List.any_cons, ih]
    show (t == c || decide (c ∈ r)) = decide (c ∈ t :: r)
    by_cases h : c = t
    · subst h; simp
    · have h' : ¬ t = c := fun e => h e.symm
      simp [h, h', List.mem_cons]
theorem flat_ints (ts : List Int) : (ts.map V.int).all flatV = true := by
  rw [List.all_eq_true]
  intro x hx
  obtain ⟨t, _, rfl⟩ := List.mem_map.mp hx
  rfl
theorem ints_at {ts : List Int} {i : Nat} {y : V} (h : (ts.map V.int)[i]? = some y) : ∃ t, y = .int t ∧ ts[i]? = some t := by
  rw [List.getElem?_map] at h
  cases e : ts[i]? with
  | none => rw [e] at h; cases h
  | some t => rw [e] at h; exact ⟨t, (Option.some.inj h).symm, rfl⟩
theorem at_ints {ts : List Int} {i : Nat} {t : Int} (h : ts[i]? = some t) : atI (ts.map V.int) (i : Int) = some (.int t) := atI_nat (by rw [List.getElem?_map, h]; rfl)
theorem at_int {ts : List Int} {k : Int} (h0 : 0 ≤ k) (h : k.toNat < ts.length) : atI (ts.map V.int) k = some (.int ts[k.toNat]) := by
  obtain ⟨n, rfl⟩ := Int.eq_ofNat_of_zero_le h0
  exact at_ints (List.getElem?_eq_getElem h)
theorem at_last {α : Type} {xs : List α} {v : α} (h : xs.getLast? = some v) : atI xs (-1) = some v := by
  cases xs with
  | nil => cases h
  | cons x r =>
    have e : (x :: r) = (x :: r).dropLast ++ [(x :: r).getLast (by simp)] := (List.dropLast_concat_getLast (by simp)).symm
    have e2 : (x :: r).getLast (by simp) = v := by
      rw [List.getLast?_eq_getLast (by simp)] at h
      exact Option.some.inj h
    rw [e, e2]
    exact atI_last _ v
/-- a comprehension over the list at a name, its test and its element change nothing -/
theorem comp_rd {K : PySem.W.Frag} {js : List Nat} {i : Nat} {a : Addr} {xs : List V} {tt : TT} {te : TE} {σ : St} {H : Hp} {Q : VK} (p : V → Bool) (f : V → V) (hσ : σ[i]? = some (some (.ref a))) (hl : SqL K H a xs) (hz : xs.length ≤ sizeLine)
    (htt : ∀ (v : V), v ∈ xs → ∀ (H' : Hp) (R : Bool → Hp → Prop), Same H H' → R (p v) H' → tt (some v :: js.map fun j => σ.getD j none) H' R)
    (hte : ∀ (v : V), v ∈ xs → p v = true → ∀ (H' : Hp) (R : V → Hp → Prop), Same H H' → R (f v) H' → te (some v :: js.map fun j => σ.getD j none) H' R)
    (hq : ∀ D, H D = none → Q (.ref D) (upd H D (.lst ((xs.filter p).map f)))) : tComp js (iList K (tVar i)) tt te σ H Q :=
  ⟨_, hσ, a, rfl, ⟨_, hl⟩, comp_list p f hl hz htt hte hq⟩
theorem same_upd {H : Hp} {p : Addr} {o : HO} (h : H p = none) : Same H (upd H p o) := fun b u q => by rw [upd_ne (ne_of_none q h)]; exact q
theorem le_line {n : Nat} (h : n ≤ 16777216) : n ≤ sizeLine := by rw [sizeLine_eq]; exact h
theorem lt_line {n : Nat} (h : n < 16777216) : n < sizeLine := by rw [sizeLine_eq]; exact h
theorem line1 {x : V} : ([x] : List V).length ≤ sizeLine := le_line (by show 1 ≤ 16777216; decide)
theorem Same.tup {H H' : Hp} (e : Same H H') {K : PySem.W.Frag} {a : Addr} {xs : List V} (h : SqT K H a xs) : SqT K H' a xs := by
  rcases h with (h | ⟨o, h⟩) | h
  · exact .inl (.inl (e _ _ h))
  · exact .inl (.inr ⟨o, e _ _ h⟩)
  · exact .inr h
end L2
namespace L2
open PySem PySem.Spec PyProof.Rows
/-! #### is, is not of two bools -/
theorem op_is_bl {X : Cx} : OpR X (compareOp .Is) (fun x y H Q => ∃ a b, x = .bl a ∧ y = .bl b ∧ Q (.bl (a == b)) H) := by
  intro pins s σ H x y v u Q I rx ry h
  obtain ⟨a, b, rfl, rfl, q⟩ := h
  cases rx
  cases ry
  exact is_bool ⟨.bl _, H, I, rfl, q⟩
theorem op_isnot_bl {X : Cx} : OpR X (compareOp .IsNot) (fun x y H Q => ∃ a b, x = .bl a ∧ y = .bl b ∧ Q (.bl (a != b)) H) := by
  intro pins s σ H x y v u Q I rx ry h
  obtain ⟨a, b, rfl, rfl, q⟩ := h
  cases rx
  cases ry
  exact isnot_bool ⟨.bl _, H, I, rfl, q⟩
end L2
/-! ### exceptions of the text's own, below ValueError: raised, passed on, caught -/
namespace L2
open PySem PySem.Spec PyProof.Rows
abbrev vErr : List Value := [.type "ValueError", .type "Exception", .type "BaseException", .type "object"]
def XIn (K : PySem.W.Frag) (C : Addr) : Prop := PySem.W.excIn K C vErr "ValueError.__new__" = true
theorem xin_obj {K : PySem.W.Frag} {h : Heap} {C : Addr} (X : K.In h) (q : XIn K C) :
    ∃ (bm : List Value) (N : Addr) (nm qn : Str) (bs : List Value) (hd : Bool) (sn : List Str) (sub : List Value) (ab : Bool) (col : Option Bool) (dd : Option Addr) (k0 k1 k2 k3 k5 : Option Value) (mN : Str → Option Value),
      h.get? C = some (excClassObj nm qn C N bs bm hd sn sub ab col dd k0 k1 k2 k3 k5 "ValueError.__new__") ∧ h.Ns N mN ∧ mN "__init__" = none ∧ OwnTail h vErr bm := by
  unfold XIn PySem.W.excIn at q
  split at q
  · rename_i d1 c1 s1 look
    split at q
    · rename_i C1 tl z0 z1 z2 z3 id1 z5 em es
      simp only [Bool.and_eq_true, beq_iff_eq, Bool.not_eq_true'] at q
      obtain ⟨⟨⟨⟨⟨e1, e2⟩, e3⟩, e4⟩, e5⟩, e6⟩ := q
      subst e1 e2
      obtain ⟨v1, v2, v3, v4, v5, v6, v7, v8, v9, v10, v11⟩ := c1
      dsimp only at em e3 e5 e6
      subst em e3
      have e7 : s1 = #[z0, z1, z2, z3, some (.builtin "ValueError.__new__"), z5] := by
        obtain ⟨l⟩ := s1
        simp only at es
        rw [es]
      subst e7
      exact ⟨tl, v4, v1, v5, v2, v6, v7, v8, v9, v10, d1, z0, z1, z2, z3, z5, _, X _ _ look, .of_isNs (PySem.W.isNs_of_in X e5), PySem.W.nsMap_none_of_in X e5 e6, PySem.W.tail_of_in X e4⟩
    · cases q
  · cases q

/-! #### a flight: what it leaves as it was -/
theorem ObjOk.there {P : Program} {w : World} {H : Hp} {h : Heap} {a : Addr} {o : HO} (x : ObjOk P w H h a o) : ∃ ob, h.get? a = some ob := by
  induction o with
  | lst xs => obtain ⟨_, _, _, _, e⟩ := x; exact ⟨_, e⟩
  | tup xs => obtain ⟨_, _, _, ob, e, _⟩ := x; exact ⟨_, e⟩
  | dK kvs => obtain ⟨_, _, _, _, ob, _, _, e, _⟩ := x; exact ⟨_, e⟩
  | dT kvs => obtain ⟨_, _, _, _, ob, _, _, e, _⟩ := x; exact ⟨_, e⟩
  | set S n => obtain ⟨ob, _, _, _, e, _⟩ := x; exact ⟨_, e⟩
  | ins C dx fs => obtain ⟨_, _, _, e, _⟩ := x; exact ⟨_, e⟩
  | own y => exact x
  | xd fs => obtain ⟨_, ⟨od, _, _, e, _⟩, _⟩ := x; exact ⟨_, e⟩
  | rng lo hi => obtain ⟨_, _, _, e⟩ := x; exact ⟨_, e⟩
  | frz ob u ih => exact ⟨_, x.1⟩
  | tbl ps => exact ⟨_, x⟩
  | met f y => exact ⟨_, x⟩
  | ext φ => exact x.2.1
theorem Un.flight {fs : List Addr} {H H' : Hp} {h0 h1 h2 B : Heap} (U : Un fs [] H H' h0 h1) (b1 : B.StaysIn h1) (b2 : B.StaysIn h2) (cov : ∀ b o, h0.get? b = some o → b ∉ fs → ∃ o', B.get? b = some o')
    (fr : ∀ b ∈ fs, H b = none ∧ ∀ o, h0.get? b = some o → ∀ vs, o.data ≠ .fields vs) (up : h1.UpToSlots h2) : Un fs [] H H' h0 h2 := by
  have sl : ∀ b o, h0.get? b = some o → b ∈ fs → ∃ z, h2.get? b = some { o with slots := z } := fun b o e hb => by
    obtain ⟨z, e1⟩ := U.slot b o e (fr b hb).1 hb (by simp)
    obtain ⟨z2, e2⟩ := up b _ e1 ((fr b hb).2 o e)
    exact ⟨z2, e2⟩
  have st : ∀ b o, h0.get? b = some o → b ∉ fs → ∀ o1, h1.get? b = some o1 → h2.get? b = some o1 := fun b o e hb o1 e1 => by
    obtain ⟨o2, e2⟩ := cov b o e hb
    have e3 := b1 b o2 e2
    rw [e1] at e3
    cases e3
    exact b2 b _ e2
  refine ⟨fun b o e n hb hx => st b o e hb o (U.keep b o e n hb hx), fun b o e n hb hx => sl b o e hb, U.free, fun b o e hx => ?_, U.tups, U.frzs, U.tbls⟩
  by_cases hb : b ∈ fs
  · obtain ⟨z, q⟩ := sl b o e hb
    exact ⟨_, q⟩
  · obtain ⟨o1, e1⟩ := U.there b o e hx
    exact ⟨o1, st b o e hb o1 e1⟩
theorem HOk.flight {P : Program} {w : World} {H : Hp} {h1 h2 B : Heap} (ok : HOk P w H h1) (b1 : B.StaysIn h1) (b2 : B.StaysIn h2) (trk : ∀ b u, H b = some u → ∃ o', B.get? b = some o') : HOk P w H h2 := fun a o e => by
  have st : ∀ c u v, H c = some v → h1.get? c = some u → h2.get? c = some u := fun c u v hc q => by
    obtain ⟨o2, e2⟩ := trk c v hc
    have e3 := b1 c o2 e2
    rw [q] at e3
    cases e3
    exact b2 c _ e2
  refine (ok a o e).stay (fun c u hc q => ?_) (fun _ z => z) fun _ _ z => z
  rcases hc with z | z
  · subst z; exact st c u o e q
  · exact st c u _ z q

/-- an exception of the class at C flies out of a call, the frames of l stand -/
structure Flies (P : Program) (w : World) (l : List Env) (H : Hp) (s : Shared) (ea C : Addr) (H' : Hp) (s' : Shared) : Prop where
  os : s'.os = s.os
  bare : AllBare s'.gens
  un : Un (frs l) [] H H' s.heap s'.heap
  hok : HOk P w H' s'.heap
  fly : ∃ (B : Heap) (a0 : Value), Heap.FlyingW B l ea (.ref C) a0 s'.heap ∧ (∀ b o, s.heap.get? b = some o → b ∉ frs l → ∃ o', B.get? b = some o') ∧ ∀ b u, H' b = some u → ∃ o', B.get? b = some o'
/-- how an exception lies behind a call -/
def CX1 (P : Program) (w : World) : CXT := fun l H s E e s' => ∃ (ea C : Addr) (H' : Hp), e = .ref ea ∧ Flies P w l H s ea C H' s' ∧ E (.ref C) none H'
section
variable {P : Program} {w : World} {K : PySem.W.Frag} {mg : Str → Option Value} {base : Heap} {N : List Str} {qual : Str} {scope : Scope} {f : Addr} {cd : Value} {A : Around} {outer : List Env} {s₀ : Shared} {H₀ : Hp} {E : XK}
theorem frames_ok {X : Cx} {pins : List (Addr × Obj)} {σ : St} {H : Hp} {s : Shared} (I : Inv X pins σ H s) : ∀ b ∈ X.fs, X.H₀ b = none ∧ ∀ o, X.s₀.heap.get? b = some o → ∀ vs, o.data ≠ .fields vs := fun b hb => by
  obtain ⟨_, o1, e1, nf⟩ := I.ok.funs.mem hb
  refine ⟨I.ok.frf b hb, fun o e => ?_⟩
  rw [e1] at e
  cases e
  exact nf
/-- it passes on through a def's frame -/
theorem pass1 : Passes (CX1 P w) (cxOf (CX1 P w) P w K mg base N qual scope f cd A outer s₀ H₀ E) E := by
  intro pins σ H1 s1 e s' I h
  obtain ⟨ea, C, H', rfl, F, q⟩ := h
  obtain ⟨B, a0, fl, cov, trk⟩ := F.fly
  have J := I.call' (ch := []) F.os F.un F.hok F.bare (fun _ z => nomatch z)
  refine wpAny_leaves_onW (L := s₀.heap.objs.size) I.ok.frames rfl fl fun h' fl' up => ?_
  refine ⟨ea, C, H', rfl, ⟨J.os, J.bare, Un.flight J.base fl.1 fl'.1 (fun b o e hb => ?_) (frames_ok I) up, F.hok.flight fl.1 fl'.1 trk, B, a0, fl', fun b o e hb => ?_, trk⟩, q⟩
  all_goals
    obtain ⟨o1, e1⟩ := I.base.there b o e (by simp [cxOf])
    refine cov b o1 e1 fun z => ?_
    rcases List.mem_cons.mp (show b ∈ s₀.heap.objs.size :: frs outer from z) with y | y
    · exact absurd (Heap.lt_size e) (by rw [y]; exact Nat.lt_irrefl _)
    · exact hb y
/-- raise X(e, ..) -/
def tRaise (C : Addr) (E : XK) (t : TA) : TS := fun _ σ H => t σ H fun vs H1 => vs.length ≤ sizeLine ∧ E (.ref C) none H1
theorem ps_raise {x : Str} {np cpos pos : Pos} {e₀ : Expr} {es : List Expr} {t : TA} {C : Addr} (hX : XIn K C) (hm : mg x = some (.ref C)) (ha : PA (cxOf (CX1 P w) P w K mg base N qual scope f cd A outer s₀ H₀ E) (e₀ :: es) t)
    (hg : Gl (cxOf (CX1 P w) P w K mg base N qual scope f cd A outer s₀ H₀ E) x := by rfl) (hdb : (x == ("__debug__" : Str)) = false := by decide)
    (he : starEach (e₀ :: es) (cxOf (CX1 P w) P w K mg base N qual scope f cd A outer s₀ H₀ E).env = (false, eval e₀ (cxOf (CX1 P w) P w K mg base N qual scope f cd A outer s₀ H₀ E).env) :: starEach es (cxOf (CX1 P w) P w K mg base N qual scope f cd A outer s₀ H₀ E).env := by rfl)
    (hpl : (backTo cpos (starEach es (cxOf (CX1 P w) P w K mg base N qual scope f cd A outer s₀ H₀ E).env)).any (·.1) = false := by rfl) :
    PS (cxOf (CX1 P w) P w K mg base N qual scope f cd A outer s₀ H₀ E) (.Raise (some (.Call (.Name x np) (e₀ :: es) [] cpos)) none pos) (tRaise C E t) := by
  intro pins s σ H D I h
  obtain ⟨bm, Nn, nm, qn, bs, hd, sn, sub, ab, col, dd, k0, k1, k2, k3, k5, mN, hC, hN, hni, T⟩ := xin_obj I.ok.mod.kin hX
  refine wpAny_Raise_call_subT (C := C) (nm := nm) (q := qn) (N := Nn) (bs := bs) (bm := bm) (hdct := hd) (sn := sn) (sub := sub) (ab := ab) (col := col) (dd := dd) (k0 := k0) (k1 := k1) (k2 := k2) (k3 := k3) (k5 := k5)
    PySem.F.excBase_ValueError (mN := mN) (T.hasType rfl) (I.ok.hd rfl) (by rw [he]; show (false || (backTo cpos (starEach es _)).any (·.1)) = false; rw [hpl]; rfl) hni (ld_glob I hg hm ⟨rfl, ?_⟩ hdb)
  have hp := ha cpos pins s σ H _ I h
  rw [he] at hp ⊢
  refine Calls.evalArgs_plain (thn hp fun us s2 ⟨vs, H2, I2, r, z, q⟩ => ?_)
  refine ⟨rfl, by rw [← r.length]; exact z, I2.bk _ _ hC, hN.keeps I2.bk, T.keeps I2.bk, fun h' ea hx => ?_⟩
  have fin : ∀ env ∈ (cxOf (CX1 P w) P w K mg base N qual scope f cd A outer s₀ H₀ E).stack, ∀ b, env.frame = some b → b ∈ frs (cxOf (CX1 P w) P w K mg base N qual scope f cd A outer s₀ H₀ E).stack := fun env m b e => List.mem_filterMap.mpr ⟨env, m, e⟩
  refine wpAny_leaves_madeW (base := PySem.W.hideAll s2.heap (frs (cxOf (CX1 P w) P w K mg base N qual scope f cd A outer s₀ H₀ E).stack)) (L := s₀.heap.objs.size) (h := s2.heap) I.ok.frames rfl (fun b o q => PySem.W.of_hideAll _ q) (PySem.W.funFrames_hide I2.stack fin) hx fun h2 t fl tup hnew up => ?_
  have hid : ∀ b o, s2.heap.get? b = some o → b ∉ frs (cxOf (CX1 P w) P w K mg base N qual scope f cd A outer s₀ H₀ E).stack → (PySem.W.hideAll s2.heap (frs (cxOf (CX1 P w) P w K mg base N qual scope f cd A outer s₀ H₀ E).stack)).get? b = some o := fun b o e n => PySem.W.hideAll_get _ e n
  have cov : ∀ b o, s₀.heap.get? b = some o → b ∉ frs outer → ∃ o', (PySem.W.hideAll s2.heap (frs (cxOf (CX1 P w) P w K mg base N qual scope f cd A outer s₀ H₀ E).stack)).get? b = some o' := fun b o e hb => by
    obtain ⟨o1, e1⟩ := I2.base.there b o e (by simp [cxOf])
    refine ⟨o1, hid b o1 e1 fun z => ?_⟩
    rcases List.mem_cons.mp (show b ∈ s₀.heap.objs.size :: frs outer from z) with y | y
    · exact absurd (Heap.lt_size e) (by rw [y]; exact Nat.lt_irrefl _)
    · exact hb y
  have trk : ∀ b u, H2 b = some u → ∃ o', (PySem.W.hideAll s2.heap (frs (cxOf (CX1 P w) P w K mg base N qual scope f cd A outer s₀ H₀ E).stack)).get? b = some o' := fun b u e => by
    obtain ⟨o1, e1⟩ := (I2.hok b u e).there
    refine ⟨o1, hid b o1 e1 fun z => ?_⟩
    rw [I2.stkFree b z] at e
    cases e
  have b1 : (PySem.W.hideAll s2.heap (frs (cxOf (CX1 P w) P w K mg base N qual scope f cd A outer s₀ H₀ E).stack)).StaysIn s2.heap := fun b o q => PySem.W.of_hideAll _ q
  exact ⟨ea, C, H2, rfl, ⟨I2.os, I2.bare, Un.flight I2.base b1 fl.1 cov (frames_ok I2) ((Heap.UpToSlots.of_keeps hx.keeps).trans up), I2.hok.flight b1 fl.1 trk, _, _, fl, cov, trk⟩, q⟩
end

/-! #### defs that may raise -/
section
variable {P : Program} {w : World} {K : PySem.W.Frag} {mg : Str → Option Value} {base : Heap}
theorem Fun.okX {x qual : Str} {st : Stmt} {f : Addr} {fd : FuncData} {N ps : List Str} {k : Nat} {sp : Sp} (F : Fun K x qual st f fd) (S : FnScope N ps (defScope st)) (len : ∀ vs H Q E, sp vs H Q E → vs.length = ps.length)
    (hbody : ∀ (cdv : Value) (A : Around) (outer : List Env) (s : Shared) (H : Hp) (vs : List V) (Q : VK) (E : XK), Room k (A.deeper (envOfC qual (defScope st) s.heap.objs.size f cdv)) → sp vs H Q E →
      ∃ t, PSs (cxOf (CX1 P w) P w K mg base N qual (defScope st) f cdv A outer s H E) (defBody st) t ∧ t { nx := fun _ H' => Q .non H', rt := Q } (start N vs) H) : FnOk P w K mg base (CX1 P w) (k + 1) f fd ps sp := by
  obtain ⟨oc, od, kV, doc, pm, an, cdv, ct, osl, rfl, lk, hcd⟩ := F.ex
  exact fn_of lk hcd S len fun A outer s H vs Q E hr hsp => hbody cdv A outer s H vs Q E hr hsp
theorem FunD.okX {x qual : Str} {st : Stmt} {ds : List Value} {f : Addr} {fd : FuncData} {N ps : List Str} {k : Nat} {sp : Sp} (F : FunD K x qual st ds f fd) (S : FnScope N ps (defScope st)) (len : ∀ vs H Q E, sp vs H Q E → vs.length = ps.length)
    (hbody : ∀ (cdv : Value) (A : Around) (outer : List Env) (s : Shared) (H : Hp) (vs : List V) (Q : VK) (E : XK), Room k (A.deeper (envOfC qual (defScope st) s.heap.objs.size f cdv)) → sp vs H Q E →
      ∃ t, PSs (cxOf (CX1 P w) P w K mg base N qual (defScope st) f cdv A outer s H E) (defBody st) t ∧ t { nx := fun _ H' => Q .non H', rt := Q } (start N vs) H) : FnOk P w K mg base (CX1 P w) (k + 1) f fd ps sp := by
  obtain ⟨oc, od, T, kV, doc, pm, an, cdv, ct, osl, rfl, lk, hcd, _⟩ := F.ex
  exact fn_of lk hcd S len fun A outer s H vs Q E hr hsp => hbody cdv A outer s H vs Q E hr hsp
end
def DefX (P : Program) (w : World) (K : PySem.W.Frag) (mg : Str → Option Value) (base : Heap) (x : Str) (k : Nat) (ps : List Str) (sp : Sp) : Prop :=
  ∃ (f : Addr) (fd : FuncData), mg x = some (.ref f) ∧ PySem.W.keepIn K (.ref f) = true ∧ Binds K fd ps [] ∧ FnOk P w K mg base (CX1 P w) k f fd ps sp
def CDefX (P : Program) (w : World) (K : PySem.W.Frag) (mg : Str → Option Value) (base : Heap) (x : Str) (C : Addr) (k : Nat) (ps : List Str) (dvs : List V) (sp : Sp) : Prop :=
  ∃ (f : Addr) (fd : FuncData) (ds : List Value), mg x = some (.ref C) ∧ Mk K C f ∧ Binds K fd ps ds ∧ Vals dvs ds ∧ FnOk P w K mg base (CX1 P w) k f fd ps sp
section
variable {P : Program} {w : World} {K : PySem.W.Frag} {mg : Str → Option Value} {base : Heap} {N : List Str} {qual : Str} {scope : Scope} {f : Addr} {cd : Value} {A : Around} {outer : List Env} {s₀ : Shared} {H₀ : Hp} {E : XK}
variable {k : Nat} {ps : List Str} {sp : Sp} {x : Str} {p pos : Pos} {e : Expr} {es : List Expr} {t : TA}
/-- within a def that may raise: the callee's exception passes on -/
theorem pe_defX (D : DefX P w K mg base x k ps sp) (hr : Room k (cxOf (CX1 P w) P w K mg base N qual scope f cd A outer s₀ H₀ E).A) (ha : PA (cxOf (CX1 P w) P w K mg base N qual scope f cd A outer s₀ H₀ E) (e :: es) t)
    (hg : Gl (cxOf (CX1 P w) P w K mg base N qual scope f cd A outer s₀ H₀ E) x := by rfl) (hdb : (x == ("__debug__" : Str)) = false := by decide)
    (he : starEach (e :: es) (cxOf (CX1 P w) P w K mg base N qual scope f cd A outer s₀ H₀ E).env = (false, eval e (cxOf (CX1 P w) P w K mg base N qual scope f cd A outer s₀ H₀ E).env) :: starEach es (cxOf (CX1 P w) P w K mg base N qual scope f cd A outer s₀ H₀ E).env := by rfl)
    (hpl : (backTo pos (starEach es (cxOf (CX1 P w) P w K mg base N qual scope f cd A outer s₀ H₀ E).env)).any (·.1) = false := by rfl) :
    PE (cxOf (CX1 P w) P w K mg base N qual scope f cd A outer s₀ H₀ E) (.Call (.Name x p) (e :: es) [] pos) (tCall sp [] E t) := by
  obtain ⟨g, fd, hm, hk, hb, F⟩ := D
  exact pe_call F hr hg hm hk hb .nil pass1 ha hdb he hpl
end

/-! #### try: one call; except X as e: a suite that changes nothing but names -/
/-- behind an expression that raised: EX is what is wanted of the exception's class and the heap; the names are as they were -/
def XP (X : Cx) (pins : List (Addr × Obj)) (σ : St) (EX : XK) (e : Value) (s' : Shared) : Prop :=
  ∃ (ea C : Addr) (H1 : Hp) (s1 : Shared) (H' : Hp), e = .ref ea ∧ Inv X pins σ H1 s1 ∧ Flies X.prog X.w X.stack H1 s1 ea C H' s' ∧ EX (.ref C) none H'
abbrev TEX := St → Hp → VK → XK → Prop
def PEX (X : Cx) (e : Expr) (t : TEX) : Prop :=
  ∀ (pins : List (Addr × Obj)) (s : Shared) (σ : St) (H : Hp) (Q : VK) (EX : XK), Inv X pins σ H s → t σ H Q EX → wpAny (model X.prog X.w) X.A (eval e X.env) (EP X pins σ Q) (XP X pins σ EX) s
def PSX (X : Cx) (st : Stmt) (t : Ends → XK → St → Hp → Prop) : Prop :=
  ∀ (pins : List (Addr × Obj)) (s : Shared) (σ : St) (H : Hp) (D : Ends) (EX : XK), Inv X pins σ H s → t D EX σ H → wpAny (model X.prog X.w) X.A (exec st X.env) (SP X pins D) (XP X pins σ EX) s
section
variable {X : Cx} {k : Nat} {C : Addr} {ps : List Str} {sp : Sp} {dvs : List V} {x : Str} {p pos : Pos} {e : Expr} {es : List Expr} {t : TA}
def tCallX (sp : Sp) (t : TA) : TEX := fun σ H Q EX => t σ H fun vs H1 => sp vs H1 Q EX
theorem pex_def (D : DefX X.prog X.w X.K X.mg X.base x k ps sp) (hr : Room k X.A) (ha : PA X.nox (e :: es) t) (hg : Gl X x := by rfl) (hdb : (x == ("__debug__" : Str)) = false := by decide)
    (he : starEach (e :: es) X.env = (false, eval e X.env) :: starEach es X.env := by rfl) (hpl : (backTo pos (starEach es X.env)).any (·.1) = false := by rfl) :
    PEX X (.Call (.Name x p) (e :: es) [] pos) (tCallX sp t) := by
  intro pins s σ H Q EX I h
  obtain ⟨f, fd, hm, hk, hb, F⟩ := D
  refine wpAny_Call_Name_kw (ld_glob I hg hm ?_ hdb)
  refine PySem.W.callWith_K (h₀ := X.base) I.ok.mod.kin hk (wpAny_mono (ha pos pins s σ H _ (I.wish _) h) (fun us s1 z => ?_) fun _ _ z => z.elim) he hpl
  obtain ⟨vs, H1, I1, r, q⟩ := z
  have I2 := I1.unwish
  have hl : us.length = ps.length := by rw [← r.length]; exact F.len _ _ _ _ q
  have hb' : BindsTo s1 fd ⟨us, []⟩ (ps.zip us) := by
    have := hb s1 us I2.kIn (by rw [List.append_nil]; exact hl)
    rw [List.append_nil] at this
    exact this
  refine ⟨I2.kIn, wpAny_call (codeAny_mono (F.run X.A X.stack s1 H1 ⟨us, []⟩ us vs Q EX hr I2.env0 hb' r q) fun r s' hq => ?_)⟩
  cases r with
  | error e =>
    obtain ⟨ea, C, H', rfl, Fl, q'⟩ := hq
    exact ⟨ea, C, H1, s1, H', rfl, I2, Fl, q'⟩
  | ok fl =>
    cases fl with
    | ret u => exact I2.after hq
    | next => exact hq.elim
    | brk => exact hq.elim
    | cont => exact hq.elim
def tMakeX (C : Addr) (sp : Sp) (dvs : List V) (t : TA) : TEX := fun σ H Q EX => t σ H fun vs H1 => ∀ x dx, H1 x = none → H1 dx = none → dx ≠ x →
  sp (.ref x :: (vs ++ dvs)) (upd (upd H1 dx (.own x)) x (.ins C dx [])) (fun v H2 => v = .non ∧ Q (.ref x) H2) EX
theorem pex_cdef (D : CDefX X.prog X.w X.K X.mg X.base x C k ps dvs sp) (hr : Room (k + 1) X.A) (ha : PA X.nox (e :: es) t) (hg : Gl X x := by rfl) (hdb : (x == ("__debug__" : Str)) = false := by decide)
    (he : starEach (e :: es) X.env = (false, eval e X.env) :: starEach es X.env := by rfl) (hpl : (backTo pos (starEach es X.env)).any (·.1) = false := by rfl) :
    PEX X (.Call (.Name x p) (e :: es) [] pos) (tMakeX C sp dvs t) := by
  intro pins s σ H Q EX I h
  obtain ⟨f, fd, ds, hm, M, hb, hd, F⟩ := D
  refine wpAny_Call_Name_kw (ld_glob I hg hm ?_ hdb)
  refine PySem.W.callWith_K (h₀ := X.base) I.ok.mod.kin M.kp (wpAny_mono (ha pos pins s σ H _ (I.wish _) h) (fun us s1 z => ?_) fun _ _ z => z.elim) he hpl
  obtain ⟨vs, H1, I1, r, q⟩ := z
  have J := I1.unwish
  have hq := q (s1.heap.objs.size + 1) s1.heap.objs.size (J.hok.fresh (Nat.le_succ _)) (J.hok.fresh (Nat.le_refl _)) (Nat.ne_of_lt (Nat.lt_succ_self _))
  have J2 := Inv.made (C := C) J
  have r2 : Vals (V.ref (s1.heap.objs.size + 1) :: (vs ++ dvs)) (Value.ref (s1.heap.objs.size + 1) :: (us ++ ds)) := .cons rfl (r.append hd)
  have hl : (Value.ref (s1.heap.objs.size + 1) :: us ++ ds).length = ps.length := by
    have z := r2.length
    rw [F.len _ _ _ _ hq] at z
    exact z.symm
  refine ⟨J.kIn, wpAny_call (make_map (f := f) J.kIn M.makes M.init (beq_iff_eq.mp M.fn) (codeAny_mono (F.run _ X.stack _ _ ⟨Value.ref (s1.heap.objs.size + 1) :: us, []⟩ (Value.ref (s1.heap.objs.size + 1) :: (us ++ ds)) _ _ EX (hr.make C us [])
    (J2.env0.make C us []) (hb _ (Value.ref (s1.heap.objs.size + 1) :: us) J2.kIn hl) r2 hq) fun r s' hq' => ?_))⟩
  cases r with
  | error e =>
    obtain ⟨ea, C', H', rfl, Fl, q'⟩ := hq'
    exact ⟨ea, C', _, _, H', rfl, J2, Fl, q'⟩
  | ok fl =>
    cases fl with
    | ret u =>
      obtain ⟨v, H', I3, rv, ev, q3⟩ := J2.after hq'
      subst ev
      exact ⟨rv, ⟨V.ref (s1.heap.objs.size + 1), H', I3, rfl, q3⟩⟩
    | next => exact hq'.elim
    | brk => exact hq'.elim
    | cont => exact hq'.elim
end
section
variable {X : Cx} {e : Expr} {te : TEX} {pos : Pos}
theorem psx_expr (he : PEX X e te) (hs : swapsWith e none pos.line X.env = pure false := by rfl) : PSX X (.Expr e pos) (fun D EX σ H => te σ H (fun _ H1 => D.nx σ H1) EX) := by
  intro pins s σ H D EX I h
  exact wpAny_Expr_any (thn (he pins s σ H _ EX I h) fun v s1 ⟨x, H1, I1, r1, q1⟩ => ⟨σ, H1, I1, q1⟩) I.quiet hs
theorem psx_set {i : Nat} {x : Str} {pos' : Pos} (hN : X.N.Nodup) (hi : X.N[i]? = some x) (hx : Loc X.env.scope x) (he : PEX X e te) (hs : swapsWith e (some (.Name x pos')) pos.line X.env = pure false := by rfl)
    (hf : X.fn x = true ∨ X.env.scope.names.lookup x = some .local := by first | exact .inl rfl | exact .inr rfl | assumption) :
    PSX X (.Assign [.Name x pos'] e pos) (fun D EX σ H => te σ H (fun v H1 => D.nx (σ.set i (some v)) H1) EX) := by
  intro pins s σ H D EX I h
  refine wpAny_Assign_Name (thn (he pins s σ H _ EX I h) fun v s1 ⟨y, H1, I1, r1, q1⟩ => ?_) hs
  exact store_ok I1 hN hi hx r1 (fun s2 I2 => ⟨_, H1, I2, q1⟩) hf
end

/-- an exception object of the class at C -/
def ExcAt (ea C : Addr) : Heap → Prop := fun h => ∃ (ox : Obj) (vs : Array Value), h.get? ea = some ox ∧ ox.cls = .ref C ∧ ox.data = .fields vs
theorem ExcAt.stay {ea C : Addr} : ∀ h1 h2 : Heap, ExcAt ea C h1 → (∀ o, h1.get? ea = some o → h2.get? ea = some o) → ExcAt ea C h2 := fun _ _ ⟨ox, vs, a, b, c⟩ k => ⟨ox, vs, k _ a, b, c⟩
/-- the context of an except suite -/
def hdl (X : Cx) (ea : Addr) : Cx := { X with A := X.A.mark (some (.ref ea)), calm := false, xe := fun _ _ => False }
section
variable {X : Cx} {pins : List (Addr × Obj)} {σ : St} {H : Hp} {s : Shared} {ea : Addr}
theorem Inv.hdl (I : Inv X pins σ H s) (ea : Addr) : Inv (hdl X ea) pins σ H s :=
  ⟨⟨I.ok.mod, I.ok.kind, I.ok.glob, I.ok.blt, I.ok.above, I.ok.inj, I.ok.has, I.ok.cab, (fun z => nomatch z), I.ok.frames, I.ok.stk, I.ok.exf, I.ok.bs, I.ok.bsz, I.ok.noex, I.ok.exfs, I.ok.funs, I.ok.frf⟩, I.os, I.bare, I.base, I.loc, I.cell, I.free, I.freeC, I.pin, I.hok, I.len⟩
theorem Inv.unhdl (ok : X.Ok) (I : Inv (L2.hdl X ea) pins σ H s) : Inv X pins σ H s := ⟨ok, I.os, I.bare, I.base, I.loc, I.cell, I.free, I.freeC, I.pin, I.hok, I.len⟩
/-- a name goes -/
theorem Inv.goes {M : Model} {A : Around} {E : Value → Shared → Prop} {i : Nat} {n : Str} {pos : Pos} {Q : Unit → Shared → Prop} (I : Inv X pins σ H s) (hN : X.N.Nodup) (hi : X.N[i]? = some n) (hl : X.env.scope.names.lookup n = some .local)
    (h : ∀ s', Inv X pins (σ.set i none) H s' → Q () s') : wpAny M A (do bindName X.env n .none; unbindBehindTheSuite X.env n pos) Q E s := by
  obtain ⟨m, hn, hloc⟩ := id I.loc
  have hcls : (X.env.scope.kind == .class || (X.env.scope.kind == .module && X.env.locals != X.env.globals)) = false := by rw [I.ok.kind]; rfl
  have hiσ : i < σ.length := by rw [I.len]; exact (List.getElem?_eq_some_iff.mp hi).1
  refine wpAny_nameGoes_keeps hl hn hcls fun h' v hn' hs => ?_
  obtain ⟨oL, _, _, hoL, _⟩ := id hn
  have old : ∀ b o, X.s₀.heap.get? b = some o → b ≠ X.env.locals := fun b o e => Nat.ne_of_lt (Nat.lt_of_lt_of_le (Heap.lt_size e) I.ok.above)
  refine h _ ⟨I.ok, I.os, I.bare, ⟨fun b o e n hb hx => (hs.2 b (old b o e)).trans (I.base.keep b o e n hb hx), fun b o e n hb hx => ?_, I.base.free, fun b o e hx => ?_, I.base.tups, I.base.frzs, I.base.tbls⟩, ⟨_, hn', fun j y v' e1 e2 e3 => ?_⟩, fun y c e => ?_, I.free, I.freeC, fun p hp => ?_, ?_, by simpa using I.len⟩
  · obtain ⟨sl, e1⟩ := I.base.slot b o e n hb hx
    exact ⟨sl, (hs.2 b (old b o e)).trans e1⟩
  · obtain ⟨o', e1⟩ := I.base.there b o e hx
    exact ⟨o', (hs.2 b (old b o e)).trans e1⟩
  · by_cases hj : j = i
    · subst hj
      rw [List.getElem?_set_self hiσ] at e2
      cases e2
    · rw [List.getElem?_set_ne (Ne.symm hj)] at e2
      obtain ⟨u', r', q⟩ := hloc j y v' e1 e2 e3
      refine ⟨u', r', ?_⟩
      rcases q with ⟨k, e⟩ | ⟨k, c, e, z⟩
      · refine .inl ⟨k, ?_⟩
        have ne : y ≠ n := fun e => hj (nodup_ix hN e1 (e ▸ hi))
        simp [ne, e]
      · exact .inr ⟨k, c, e, z.sameBut hs (I.cne y c e)⟩
  · obtain ⟨w', z⟩ := I.cell y c e
    exact ⟨w', z.sameBut hs (I.cne y c e)⟩
  · obtain ⟨e, n, ne, nf, d⟩ := I.pin p hp
    exact ⟨(hs.2 p.1 ne).trans e, n, ne, nf, d⟩
  · intro b ob e
    refine (I.hok b ob e).stay (fun c w' hc q => (hs.2 c ?_).trans q) (fun _ q => q) fun _ _ q => q
    intro z
    rw [z] at hc
    rcases hc with hc | hc
    · rw [← hc, I.free] at e; cases e
    · rw [I.free] at hc; cases hc
end

def tTry (K : PySem.W.Frag) (Cc : Addr) (i : Nat) (ts : Ends → XK → St → Hp → Prop) (th : TS) : TS := fun D σ H =>
  ts D (fun cls _ H' => ∃ C, cls = .ref C ∧ PySem.W.exmOne K (.ref C) (.ref Cc) = some true ∧ ∀ ea, H' ea = none → th { nx := fun σ' H2 => D.nx (σ'.set i none) H2, rt := fun _ _ => False } (σ.set i (some (.ref ea))) (upd H' ea (.ext (ExcAt ea C)))) σ H
theorem ps_try {X : Cx} {st b₀ : Stmt} {suite : List Stmt} {xc n : Str} {np hpos pos : Pos} {i : Nat} {Cc : Addr} {ts : Ends → XK → St → Hp → Prop} {th : TS} (hN : X.N.Nodup) (hi : X.N[i]? = some n) (hm : X.mg xc = some (.ref Cc)) (hs : PSX X st ts)
    (hh : ∀ ea, PSs (hdl X ea) (b₀ :: suite) th) (hst : X.stack = X.env :: X.outer := by rfl) (hf : X.env.frame = some X.env.locals := by rfl) (hl : X.env.scope.names.lookup n = some .local := by rfl) (hg : Gl X xc := by rfl)
    (hdb : (xc == ("__debug__" : Str)) = false := by decide) :
    PS X (.Try [st] [.ExceptHandler (some (.Name xc np)) (some n) (b₀ :: suite) hpos] [] [] pos) (tTry X.K Cc i ts th) := by
  intro pins s σ H D I h
  refine wpAny_Try_except (wpAny_execs_cons (wpAny_mono (hs pins s σ H D _ I h) (fun f s1 q => ?_) fun e s1 q => ?_))
  · cases f with
    | next => exact wpAny_execs_nil (wpAny_execs_nil q)
    | ret v => exact q
    | brk => exact q
    | cont => exact q
  obtain ⟨ea, C, H1, s0, H', rfl, I0, F, C', eC, hx, hk⟩ := q
  cases eC
  obtain ⟨B, a0, fl, cov, trk⟩ := F.fly
  have hfs : X.A.frames = some (X.env :: X.outer) := by rw [← hst]; exact I0.ok.frames
  have fr : ∀ b ∈ frs X.stack, H1 b = none ∧ ∀ o, s0.heap.get? b = some o → ∀ vs, o.data ≠ .fields vs := fun b hb => by
    obtain ⟨_, o1, e1, nf⟩ := I0.stack.mem hb
    refine ⟨I0.stkFree b hb, fun o e => ?_⟩
    rw [e1] at e
    cases e
    exact nf
  have fl' : Heap.FlyingW B (X.env :: X.outer) ea (.ref C) a0 s1.heap := by rw [← hst]; exact fl
  refine wpAny_looks_onW (L := X.env.locals) hfs hf fl' fun h4 held up4 => wpAny_landsW held fun h5 fl5 up5 => ?_
  have land : ∀ h6 : Heap, B.StaysIn h6 → s1.heap.UpToSlots h6 → Inv X pins σ H' { s1 with heap := h6 } := fun h6 b6 up6 =>
    I0.call' (s' := { s1 with heap := h6 }) (ch := []) F.os (Un.flight F.un fl.1 b6 cov fr up6) (F.hok.flight fl.1 b6 trk) F.bare (fun _ z => nomatch z)
  have I5 := land h5 fl5.1 (up4.trans up5)
  obtain ⟨ob, hob, hcl⟩ := fl5.there
  have LT : PySem.W.Looks (model X.prog X.w) h5 (typeOf (.ref ea)) (.ref C) := hcl ▸ (PySem.W.Looks.ld hob).andThen .now
  have test : wpAny (model X.prog X.w) (X.A.mark (some (.ref ea))) (eval (.Name xc np) X.env) (fun c s₁ => c = .ref Cc ∧ s₁ = { s1 with heap := h5 }) (fun _ _ => False) { s1 with heap := h5 } := ld_glob (X := hdl X ea) (I5.hdl ea) hg hm ⟨rfl, rfl⟩ hdb
  refine wpAny_handleBy_cons (codeAny_handlers_test (wpAny_mono test (fun c s6 z => ?_) fun _ _ z => z.elim)) (by intro q; cases q)
  obtain ⟨rfl, rfl⟩ := z
  refine (PySem.W.exm_one (M := model X.prog X.w) I5.kIn LT hx).here ?_
  refine codeAny_handlers_suite_as ?_
  refine lands_againW fl5 fun h6 fl6 up6 => ?_
  have I6 := land h6 fl6.1 ((up4.trans up5).trans up6)
  -- the exception's object is new since the call
  obtain ⟨oe, we, hoe, hoc, hod, _⟩ := fl6.first
  have new : H' ea = none := by
    cases q : H' ea with
    | none => rfl
    | some u =>
      obtain ⟨o', z⟩ := trk ea u q
      rw [fl.2.1] at z
      cases z
  have new0 : s0.heap.get? ea = none := by
    cases q : s0.heap.get? ea with
    | none => rfl
    | some o =>
      by_cases m : ea ∈ frs X.stack
      · obtain ⟨sl, z⟩ := (Un.flight F.un fl.1 fl6.1 cov fr ((up4.trans up5).trans up6)).slot ea o q (fr ea m).1 m (by simp)
        rw [hoe] at z
        cases z
        exact absurd hod ((fr ea m).2 o q we)
      · obtain ⟨o', z⟩ := cov ea o q m
        rw [fl.2.1] at z
        cases z
  have U6 := Un.flight F.un fl.1 fl6.1 cov fr ((up4.trans up5).trans up6)
  have ok6 := F.hok.flight fl.1 fl6.1 trk
  have neE : ∀ b u, H' b = some u → b ≠ ea := fun b u e z => by rw [z, new] at e; cases e
  have I7 : Inv X pins σ (upd H' ea (.ext (ExcAt ea C))) { s1 with heap := h6 } := by
    refine I0.call' (s' := { s1 with heap := h6 }) (ch := []) F.os ⟨U6.keep, U6.slot, fun b o e n hx => ?_, U6.there, fun b xs e => ?_, fun b o u e => ?_, fun b ps e => ?_⟩ (fun b o e => ?_) F.bare (fun _ z => nomatch z)
    · rw [upd_ne (fun z => by rw [z, new0] at e; cases e)]
      exact U6.free b o e n hx
    · have z := U6.tups b xs e
      rw [upd_ne (neE b _ z)]
      exact z
    · have z := U6.frzs b o u e
      rw [upd_ne (neE b _ z)]
      exact z
    · obtain ⟨more, z⟩ := U6.tbls b ps e
      exact ⟨more, by rw [upd_ne (neE b _ z)]; exact z⟩
    · by_cases hb : b = ea
      · subst hb
        rw [upd_same] at e
        cases e
        exact ⟨⟨oe, we, hoe, hoc, hod⟩, ⟨oe, hoe⟩, ExcAt.stay⟩
      · rw [upd_ne hb] at e
        exact (ok6 b o e).stay (fun _ _ _ q => q) (fun c z => by rw [upd_ne (neE c _ z)]; exact z) fun c xs z => by rw [upd_ne (neE c _ z)]; exact z
  have hiσ : i < σ.length := by rw [I0.len]; exact (List.getElem?_eq_some_iff.mp hi).1
  refine store_ok (X := hdl X ea) (v := .ref ea) (I7.hdl ea) hN hi (.inl hl) rfl (fun s8 I8 => ?_) (.inr hl)
  refine wpAny_mono (hh ea pins s8 _ _ _ I8 (hk ea new)) (fun f s9 q9 => ?_) fun _ _ z => z.elim
  cases f with
  | next =>
    obtain ⟨σ9, H9, I9, q9⟩ := q9
    exact (I9.unhdl I0.ok).goes hN hi hl fun s' I' => ⟨_, H9, I', q9⟩
  | ret v => obtain ⟨_, _, _, _, _, q⟩ := q9; exact q.elim
  | brk => obtain ⟨_, _, _, q⟩ := q9; exact q.elim
  | cont => obtain ⟨_, _, _, q⟩ := q9; exact q.elim

/-! #### isinstance of a caught exception -/
section
open PySem.W PySem.Builtin PySem.Builtin.ObjectAttr PySem.Builtin.Getset_descriptor
theorem find_data {K : Frag} {M : Model} {h : Heap} (X : K.In h) {x C : Addr} {name : Str} {a g : Value} (ha : findIn K (.ref C) name = some (some a)) (hg : specialIn K a "__get__" = some (some g)) (ht : takesIn K a = some true) :
    Looks M h (ObjectAttr.find (.ref x) (.ref C) name) (.bind g a) := by
  have e : Looks M h (ObjectAttr.dataDescriptor? (some a) (some g)) (some (g, a)) := (looks_takesIn X ht).andThen .now
  exact (looks_findIn X ha).andThen ((looks_specialIn X hg).andThen (e.andThen (Looks.tag .now)))
/-- what of the class of an exception isinstance looks at -/
structure XAttr (K : Frag) (C : Addr) : Prop where
  ga : findIn K (.ref C) "__getattribute__" = some (some (.builtin "BaseException.__getattribute__"))
  gt : findIn K (.ref C) "__getattr__" = some none
  cl : findIn K (.ref C) "__class__" = some (some (.builtin "object.__class__"))
  get : specialIn K (.builtin "object.__class__") "__get__" = some (some (.builtin "getset_descriptor.__get__"))
  tk : takesIn K (.builtin "object.__class__") = some true
  mo : mroIn K C (.type "object") = some true
  mb : mroIn K C (.type "BaseException") = some true
theorem class_getE {prog : Program} {w : World} {A : Around} {R : Result → Shared → Prop} {s : Shared} {K : Frag} {x C : Addr} {tp : Value} (X : K.In s.heap) (LT : ∀ M : Model, Looks M s.heap (typeOf (.ref x)) (.ref C)) (hm : mroIn K C (.type "object") = some true)
    (fin : R (.ok (.ret (.ref C))) s) : codeAny (model prog w) A (.call (.builtin "getset_descriptor.__get__") ⟨[.builtin "object.__class__", .ref x, tp], []⟩) R s := by
  rcases s with ⟨hp, gens, drawn, tk, os⟩
  have of_type := LT (model prog w)
  have of_mro := looks_mroIn (M := model prog w) X hm
  refine codeAny_call_builtin PySem.W.KF.slot_gs.plain PySem.W.KF.entry_gs (PySem.W.KF.slot_gs.check _ _ _ _ _ _ _ _ PySem.W.KF.type_class (PySem.W.KF.args_gs _ _ _) ?_)
  unfold Builtin.«getset_descriptor.__get__»
  unfold descrGet
  rw [dga_obj]
  apply wpAny_bind
  apply wpAny_pure
  unfold descrGetter descrCheckInstance
  unfold descrNameAndClass isInstance
  simp only [PySem.W.KF.owner_class]
  repeat lk
  refine ⟨Code.quiet_builtin _ (by decide +kernel), codeAny_builtin PySem.W.KF.entry_class ?_⟩
  unfold Builtin.«object.__class__»
  unfold shownTypeOf
  repeat lk
  exact fin
theorem exc_class {prog : Program} {w : World} {A : Around} {E : Value → Shared → Prop} {s : Shared} {K : Frag} {x C : Addr} {Q : Option Value → Shared → Prop} (X : K.In s.heap) (LT : ∀ M : Model, Looks M s.heap (typeOf (.ref x)) (.ref C)) (T : XAttr K C)
    (h : Q (some (.ref C)) { s with toks := s.toks + 1 }) : wpAny (model prog w) A (getAttr? (.ref x) "__class__") Q E s := by
  obtain ⟨hh, g, d, t, os⟩ := s
  have a0 := LT (model prog w)
  have a1 := looks_findIn (M := model prog w) X T.ga
  have a2 := looks_findIn (M := model prog w) X T.gt
  have a3 := find_data (M := model prog w) (x := x) X T.cl T.get T.tk
  have a4 := looks_mroIn (M := model prog w) X T.mb
  have hne : (onTheHeap (Value.ref C) && Value.builtin "BaseException.__getattribute__" == Value.builtin "object.__getattribute__") = false := by
    rw [show (Value.builtin "BaseException.__getattribute__" == Value.builtin "object.__getattribute__") = false by decide +kernel, Bool.and_false]
  unfold getAttr? getAttrBy?
  unfold getAttrBy
  refine wpAny_bind (wpAny_mkText (wpAny_bind (wpAny_attempt (wpAny_holding (wpAny_bind (a0.at (wpAny_bind (a1.at ?_))))))))
  dsimp only
  rw [hne, if_neg Bool.false_ne_true]
  unfold getAttrByItsOwn hookBefore callGetattribute
  refine wpAny_bind ?_
  rw [if_pos (show onTheHeap (Value.ref C) = true from rfl)]
  refine a2.at ?_
  apply wpAny_bind
  apply wpAny_attempt
  apply wpAny_holding
  rw [Bool.false_and, if_neg Bool.false_ne_true]
  unfold boundAndCalled
  refine wpAny_bind (wpAny_of_eq (F.excAttr_ValueError.ga.bind (.ref x)) ?_)
  dsimp only [List.singleton_append, List.cons_append, List.nil_append]
  have hk : builtinKind "BaseException.__getattribute__" = some .slot ∧ splitId "BaseException.__getattribute__" = some ("BaseException", "__getattribute__") := by decide +kernel
  have harg := F.args_bexc_ga (.ref x) (.str "__class__" t)
  refine wpAny_call (codeAny_call_builtin F.excAttr_ValueError.ga.plain F.entry_bexc_ga ?_)
  simp only [checkBuiltinCall, hk.1, hk.2]
  refine wpAny_bind ?_
  unfold isInstance
  refine wpAny_bind (a0.at (a4.at ?_))
  rw [if_neg (by decide)]
  refine wpAny_of_eq harg ?_
  delta Builtin.«object.__getattribute__»
  refine wpAny_bind (wpAny_pure ?_)
  dsimp only
  refine wpAny_bind (wpAny_pure ?_)
  refine wpAny_bind (a0.at (wpAny_bind (a3.at ?_)))
  dsimp only
  unfold bindTo
  apply wpAny_bind
  apply wpAny_holding
  refine wpAny_call (class_getE (s := ⟨hh, g, d, t + 1, os⟩) X LT T.mo ?_)
  exact wpAny_pure (handed_on rfl (wpAny_pure h))
theorem kitx_exc {K : Frag} {ea C : Addr} (T : XAttr K C) (hc : ∃ (c : Value) (dd : Option Addr) (cd : ClassData) (sl : Array (Option Value)), K.lookup C = some ⟨c, dd, .cls cd, sl⟩) : KitX K (.ref ea) (.ref C) (ExcAt ea C) where
  ty := fun M h _ p => by
    obtain ⟨ox, vs, e1, e2, _⟩ := p
    exact e2 ▸ (Looks.ld e1).andThen .now
  it := fun _ _ X _ => by
    obtain ⟨c, dd, cd, sl, ho⟩ := hc
    intro A' Q' E' s' k q
    unfold isType loadHead
    apply wpAny_bind
    exact wpAny_loadPart (k _ _ (X _ _ ho)) (wpAny_pure q)
  ne := by
    intro h tp dd its n sl X at_
    obtain ⟨c, dd', cd, sl', ho⟩ := hc
    cases q : (Value.ref C == Value.ref tp) with
    | false => rfl
    | true =>
      have e : C = tp := Value.ref.inj (beq_iff_eq.mp q)
      subst e
      cases (X _ _ ho).symm.trans at_
  ca := fun {_ _ _ _ _ s} X p k => exc_class X (fun M => by
    obtain ⟨ox, vs, e1, e2, _⟩ := p
    exact e2 ▸ (Looks.ld e1).andThen .now) T k
/-- isinstance(e, X), e a caught exception of the class at C -/
def rIsX (K : Frag) : List V → Hp → VK → Prop := fun xs H Q => ∃ (ea C : Addr) (c : V) (v : Bool), xs = [.ref ea, c] ∧ H ea = some (.ext (ExcAt ea C)) ∧ XAttr K C ∧ (∃ (k : Value) (dd : Option Addr) (cd : ClassData) (sl : Array (Option Value)), K.lookup C = some ⟨k, dd, .cls cd, sl⟩) ∧
  ((∃ n, c = .ty n ∧ kitOne K (.ref C) (.type n) = some v) ∨ (∃ a, c = .ref a ∧ kitOne K (.ref C) (.ref a) = some v)) ∧ Q (.bl v) H
theorem call_isX {X : Cx} : CallR X (.builtin "isinstance") (rIsX X.K) := by
  intro pins s σ H xs us Q I r h
  obtain ⟨ea, C, c, v, rfl, hE, T, hc, hk, q⟩ := h
  obtain ⟨u, w', rfl, r1, r2⟩ := vals2 r
  obtain rfl : u = Value.ref ea := r1
  have p : ExcAt ea C s.heap := (I.hok ea _ hE).1
  rcases hk with ⟨n, rfl, e⟩ | ⟨a, rfl, e⟩
  · obtain rfl : w' = Value.type n := r2
    exact kia_one (kitx_exc T hc) I.kIn p e (fun z => nomatch z) fun tk => ⟨.bl v, H, I.tok _, rfl, q⟩
  · obtain rfl : w' = Value.ref a := r2
    exact kia_one (kitx_exc T hc) I.kIn p e (fun z => nomatch z) fun tk => ⟨.bl v, H, I.tok _, rfl, q⟩
theorem call_isX' {X : Cx} (K : Frag) (h : X.K = K) : CallR X (.builtin "isinstance") (rIsX K) := by
  subst h
  exact call_isX
end
end L2
/-! ### texts, as the lists of their signs -/
namespace L2
open PySem PySem.Spec PyProof.Rows
/-- the text of these signs -/
def tx (l : List Nat) : Str := ⟨l.toArray⟩
theorem tx_cps (l : List Nat) : (tx l).cps.toList = l := by simp [tx]
theorem tx_len (l : List Nat) : (tx l).length = l.length := by simp [tx, Str.length]
theorem tx_app (a b : List Nat) : tx a ++ tx b = tx (a ++ b) := by
  show Str.mk (a.toArray ++ b.toArray) = Str.mk (a ++ b).toArray
  simp
theorem tx_inj {a b : List Nat} : tx a = tx b ↔ a = b := by
  constructor
  · intro h
    have := congrArg (fun z : Str => z.cps.toList) h
    simpa [tx] using this
  · intro h; rw [h]
theorem txV {a b : List Nat} : decide (V.str (tx a) = V.str (tx b)) = decide (a = b) := by
  by_cases h : a = b
  · rw [h]; simp
  · rw [decide_eq_false h]
    exact decide_eq_false fun z => h (tx_inj.mp (V.str.inj z))
theorem lit_tab : (Str.ofString "\t") = tx [9] := by decide +kernel
theorem lit_blank : (Str.ofString " ") = tx [32] := by decide +kernel
theorem lit_empty : (Str.ofString "") = tx [] := by decide +kernel
theorem lit_blanks : (Str.ofString "  ") = tx [32, 32] := by decide +kernel
section
variable {X : Cx} {tg : Expr}
/-- a module's constant -/
theorem pe_globR {x : Str} {v : V} {pos : Pos} (hg : Gl X x) (h : ∃ u, X.mg x = some u ∧ RelV v u) (hd : (x == ("__debug__" : Str)) = false := by decide) : PE X (.Name x pos) (tC v) := by
  obtain ⟨u, hm, r⟩ := h
  exact pe_glob hg hm r hd
theorem pe_lit {x : Str} {j pos} {l : List Nat} (h : x = tx l) : PE X (.Constant (.str x) j pos) (tC (.str (tx l))) := by
  subst h
  exact pe_str
/-! #### + and * -/
theorem op_addS : OpR X (binaryOp .Add) (fun x y H Q => ∃ a b, x = .str (tx a) ∧ y = .str (tx b) ∧ a.length + b.length ≤ 16777216 ∧ Q (.str (tx (a ++ b))) H) := by
  intro pins s σ H x y v u Q I rx ry h
  obtain ⟨a, b, rfl, rfl, hz, q⟩ := h
  refine op_add_str pins s σ H _ _ v u Q I rx ry ⟨tx a, tx b, rfl, rfl, ?_, by rw [tx_app]; exact q⟩
  rw [tx_len, tx_len, sizeLine_eq]
  exact hz
theorem foldl_reps (c : Nat) : ∀ (k : Nat) (acc : List Nat), (List.replicate k (#[c] : Array Nat)).foldl (· ++ ·) acc.toArray = (acc ++ List.replicate k c).toArray
  | 0, acc => by simp
  | k + 1, acc => by
    rw [List.replicate_succ, List.foldl_cons]
    have e : acc.toArray ++ #[c] = (acc ++ [c]).toArray := by simp
    rw [e, foldl_reps c k (acc ++ [c]), List.replicate_succ]
    simp
/-- one sign, k times -/
theorem op_mulS : OpR X (binaryOp .Mult) (fun x y H Q => ∃ (c : Nat) (k : Int), x = .str (tx [c]) ∧ y = .int k ∧ 0 ≤ k ∧ k ≤ 16777216 ∧ Q (.str (tx (List.replicate k.toNat c))) H) := by
  intro pins s σ H x y v u Q I rx ry h
  obtain ⟨c, k, rfl, rfl, h0, h1, q⟩ := h
  obtain ⟨t, rfl⟩ := rx
  obtain ⟨t', rfl⟩ := ry
  have hl : (tx [c]).length = 1 := by rw [tx_len]; rfl
  refine SB.mul (n := k) ⟨?_, fun _ _ => ?_, fun _ _ => ?_⟩ fun t' tk => ⟨.str (tx (List.replicate k.toNat c)), H, I.tok _, ⟨t', ?_⟩, q⟩
  · rw [decide_eq_false (by omega), decide_eq_false (by omega)]; rfl
  · rw [hl]
    have : (2 ^ 63 - 1) / k ≥ 1 := by
      refine (Int.le_ediv_iff_mul_le (by omega)).mpr ?_
      omega
    omega
  · rw [hl]
    unfold Builtin.Str.tooLong
    refine decide_eq_false ?_
    rw [sizeLine_eq]
    omega
  · congr 1
    unfold Txt.mul
    by_cases hk : k < 1
    · rw [if_pos hk]
      have : k.toNat = 0 := by omega
      rw [this]
      rfl
    · rw [if_neg hk]
      by_cases hk1 : (k == 1 || (tx [c]).length == 0) = true
      · rw [if_pos hk1]
        rw [hl] at hk1
        have : k = 1 := by simpa using hk1
        rw [this]
        rfl
      · rw [if_neg hk1]
        show Str.mk ((List.replicate k.toNat (#[c] : Array Nat)).foldl (· ++ ·) ([] : List Nat).toArray) = tx _
        rw [foldl_reps]
        simp [tx]
/-! #### slices of texts -/
def cutN (l : List Nat) (lo hi : Option Int) : List Nat := (l.drop (HT.sIx l.length 0 lo)).take (HT.sIx l.length l.length hi - HT.sIx l.length 0 lo)
theorem clip_sIx (n d : Nat) (o : Option Int) : (match o with | none => (d : Int) | some i => (let i := if i < 0 then i + (n : Int) else i; if (1 : Int) > 0 then max 0 (min i (n : Int)) else max (-1) (min i ((n : Int) - 1)))) = ((HT.sIx n d o : Nat) : Int) := by
  cases o with
  | none => rfl
  | some i =>
    simp only [HT.sIx, show (1 : Int) > 0 by decide, if_true]
    by_cases h : i < 0
    · simp only [h, if_true]; omega
    · simp only [h, if_false]; omega
theorem strIx (lo hi : Option Int) (n : Nat) : Builtin.Str.strSliceIndices lo hi 1 n = (List.range (HT.sIx n n hi - HT.sIx n 0 lo)).map (HT.sIx n 0 lo + ·) := by
  rw [← sliceRange_one]
  have e1 := clip_sIx n 0 lo
  have e2 := clip_sIx n n hi
  unfold Builtin.Str.strSliceIndices
  simp only [show (1 : Int) > 0 by decide, if_true] at e1 e2 ⊢
  congr 1
theorem part_of {v : Value} {o : Option Int} (p : IsPart v o) : ∃ l : Option (Int × Tok), v = partValue l ∧ l.map (·.1) = o := by
  cases p with
  | none => exact ⟨none, rfl, rfl⟩
  | int i t => exact ⟨some (i, t), rfl, rfl⟩
def rSlS : V → Option Int → Option Int → Hp → VK → Prop := fun x lo hi H Q => ∃ l, x = .str (tx l) ∧ l.length ≤ 16777216 ∧ Q (.str (tx (cutN l lo hi))) H
theorem sl_str : SlR X rSlS := by
  intro pins s σ H x v vl vu lo hi sl Q I rx hs pl pu h
  obtain ⟨l, rfl, hz, q⟩ := h
  obtain ⟨t, rfl⟩ := rx
  obtain ⟨l', rfl, el⟩ := part_of pl
  obtain ⟨u', rfl, eu⟩ := part_of pu
  refine ⟨"str", _, F.slot_str_getitem.lookup, typeIs_str s _ _, ?_⟩
  refine wpAny_getItem_str_slice (l := l') (u := u') (st := none) hs rfl ?_
  have ep : slicePicked (tx l) l' u' none = (List.range (HT.sIx l.length l.length hi - HT.sIx l.length 0 lo)).map (HT.sIx l.length 0 lo + ·) := by
    unfold slicePicked
    rw [el, eu, tx_len]
    exact strIx lo hi l.length
  have ec : (slicePicked (tx l) l' u' none).filterMap ((tx l).cps[·]?) = cutN l lo hi := by
    rw [ep, pick_run, tx_cps]
    rfl
  unfold sliceMade
  by_cases hw : (((none : Option (Int × Tok)).map (·.1)).getD 1 == 1 && (slicePicked (tx l) l' u' none).length == (tx l).length) = true
  · rw [if_pos hw]
    have h1 : (slicePicked (tx l) l' u' none).length = l.length := by
      rw [Bool.and_eq_true] at hw
      have := hw.2
      rw [tx_len] at this
      simpa using this
    rw [ep, List.length_map, List.length_range] at h1
    have b1 := HT.sIx_le l.length 0 (Nat.zero_le _) lo
    have b2 := HT.sIx_le l.length l.length (Nat.le_refl _) hi
    have e : cutN l lo hi = l := by
      unfold cutN
      by_cases hl0 : l = []
      · subst hl0; simp
      · have hp : 0 < l.length := List.length_pos_iff.mpr hl0
        have z0 : HT.sIx l.length 0 lo = 0 := by omega
        rw [z0, Nat.sub_zero, List.drop_zero, List.take_of_length_le (by omega)]
    rw [e] at q
    exact ⟨.str (tx l), H, I, ⟨_, rfl⟩, q⟩
  · rw [if_neg hw, ec]
    refine ⟨?_, .str (tx (cutN l lo hi)), H, I.tok _, ⟨_, rfl⟩, q⟩
    show (cutN l lo hi).toArray.size ≤ sizeLine
    rw [List.size_toArray, sizeLine_eq]
    unfold cutN
    rw [List.length_take, List.length_drop]
    omega
/-! #### methods of texts -/
theorem vals_strs : ∀ {ls : List (List Nat)} {us : List Value}, Vals (ls.map fun l => V.str (tx l)) us → StrsAre us (ls.map tx)
  | [], us, r => by rw [List.map_nil] at r; cases r; exact .nil
  | l :: ls, us, r => by
    rw [List.map_cons] at r
    cases r with
    | cons r1 r2 =>
      obtain ⟨t, e⟩ := r1
      subst e
      exact .cons (tx l) t (vals_strs r2)
theorem join_tx : ∀ ls : List (List Nat), Str.join (tx []) (ls.map tx) = tx ls.flatten
  | [] => rfl
  | [l] => by show tx l = tx (l ++ []); rw [List.append_nil]
  | l :: k :: r => by
    show tx l ++ tx [] ++ Str.join (tx []) ((k :: r).map tx) = tx (l ++ (k :: r).flatten)
    rw [join_tx (k :: r), tx_app, tx_app, List.append_nil]
/-- "".join of a list of texts -/
theorem mt_join : MtR X "str.join" (fun x vs H Q => ∃ (a : Addr) (ls : List (List Nat)), x = .str (tx []) ∧ vs = [.ref a] ∧ SqL X.K H a (ls.map fun l => V.str (tx l)) ∧ (ls.map List.length).sum ≤ 16777216 ∧ Q (.str (tx ls.flatten)) H) := by
  intro pins s σ H x vs v us Q I rx rv h
  obtain ⟨a, ls, rfl, rfl, hS, hz, q⟩ := h
  obtain ⟨t, rfl⟩ := rx
  obtain ⟨u, rfl, ru⟩ := vals1 rv
  cases ru
  obtain ⟨its, r, pl, _⟩ := I.list hS
  have e : (ls.map tx).map (·.length) = ls.map List.length := by
    rw [List.map_map]
    exact List.map_congr_left fun l _ => tx_len l
  refine join_list pl.isList (ys := ls.map tx) (by simpa using vals_strs r) (by rw [e, tx_len]; simpa using hz) fun t' k => ⟨.str (tx ls.flatten), H, I.tok _, ⟨t', ?_⟩, q⟩
  show Value.str (Builtin.Str.glued (tx []) (ls.map tx)) t' = _
  rw [StrLaws.glued_eq_join, join_tx]
def lstr (l : List Nat) : List Nat := l.dropWhile (· == 32)
def rstr (l : List Nat) : List Nat := (l.reverse.dropWhile (· == 32)).reverse
theorem contains32 : (tx [32]).cps.contains = fun c => c == 32 := by
  funext c
  rw [Bool.eq_iff_iff]
  simp [tx]
theorem dropWhile_take {α : Type} (p : α → Bool) (l : List α) : l.dropWhile p = l.drop (l.takeWhile p).length := by
  induction l with
  | nil => rfl
  | cons a l ih =>
    by_cases h : p a = true
    · rw [List.dropWhile_cons_of_pos h, List.takeWhile_cons_of_pos h, List.length_cons, List.drop_succ_cons, ih]
    · rw [List.dropWhile_cons_of_neg h, List.takeWhile_cons_of_neg h]; rfl
theorem rstr_take (l : List Nat) : rstr l = l.take (l.length - (l.reverse.takeWhile (· == 32)).length) := by
  unfold rstr
  rw [dropWhile_take, List.drop_reverse, List.reverse_reverse]
theorem strip_of (l : List Nat) (left : Bool) : stripped (tx [32]).cps.contains left true (tx l) = tx (rstr (if left then lstr l else l)) ∧
    (stripSame (tx [32]).cps.contains left true (tx l) = true → rstr (if left then lstr l else l) = l) := by
  have e0 : ∀ k : Nat, k ≤ l.length → Builtin.Str.strSub (tx l) k (l.length - ((l.drop k).reverse.takeWhile (· == 32)).length) = tx (rstr (l.drop k)) := by
    intro k hk
    unfold Builtin.Str.strSub
    have : (tx l).cps.extract k (l.length - ((l.drop k).reverse.takeWhile (· == 32)).length) = (rstr (l.drop k)).toArray := by
      apply Array.toList_inj.mp
      rw [Array.toList_extract, tx_cps, rstr_take]
      show List.extract l k _ = _
      rw [List.extract_eq_drop_take, List.length_drop]
      have := takeWhile_len_le (· == 32) (l.drop k).reverse
      rw [List.length_reverse, List.length_drop] at this
      simp only []
      congr 1
      omega
    rw [this]
    rfl
  have hlo : stripLo (tx [32]).cps.contains left (tx l) = if left then (l.takeWhile (· == 32)).length else 0 := by
    unfold stripLo
    rw [tx_cps, contains32]
  have hhi : ∀ k, stripHi (tx [32]).cps.contains true (tx l) k = l.length - ((l.drop k).reverse.takeWhile (· == 32)).length := by
    intro k
    unfold stripHi
    rw [if_pos rfl, tx_cps, tx_len, contains32]
  have hls : (if left then lstr l else l) = l.drop (if left then (l.takeWhile (· == 32)).length else 0) := by
    cases left
    · rfl
    · exact dropWhile_take _ _
  have hle : (if left then (l.takeWhile (· == 32)).length else 0) ≤ l.length := by
    cases left
    · exact Nat.zero_le _
    · exact takeWhile_len_le _ _
  refine ⟨?_, fun hs => ?_⟩
  · unfold stripped
    rw [hlo, hhi, e0 _ hle, hls]
  · unfold stripSame at hs
    rw [hlo, hhi, tx_len, Bool.and_eq_true] at hs
    have h1 : (if left then (l.takeWhile (· == 32)).length else 0) = 0 := by simpa using hs.1
    rw [hls, h1, List.drop_zero, rstr_take]
    rw [h1, List.drop_zero] at hs
    have h2 : l.length - (l.reverse.takeWhile (· == 32)).length = l.length := by simpa using hs.2
    rw [h2, List.take_length]
theorem lstr_len (l : List Nat) : (lstr l).length ≤ l.length := by
  unfold lstr
  rw [dropWhile_take, List.length_drop]
  omega
theorem rstr_len (l : List Nat) : (rstr l).length ≤ l.length := by
  rw [rstr_take, List.length_take]
  omega
theorem mt_rstrip : MtR X "str.rstrip" (fun x vs H Q => ∃ l, x = .str (tx l) ∧ vs = [.str (tx [32])] ∧ l.length ≤ 16777216 ∧ Q (.str (tx (rstr l))) H) := by
  intro pins s σ H x vs v us Q I rx rv h
  obtain ⟨l, rfl, rfl, hz, q⟩ := h
  obtain ⟨t, rfl⟩ := rx
  obtain ⟨u, rfl, t', rfl⟩ := vals1 rv
  obtain ⟨h1, h2⟩ := strip_of l false
  refine call_gives F.slot_str_rstrip (typeIs_str _ _ _) F.entry_str_rstrip (F.args_str_rstrip_2 _ _) (gives_str_rstrip_chars _ _ _ _) ?_
  cases hs : stripSame (tx [32]).cps.contains false true (tx l) with
  | true =>
    rw [if_pos rfl]
    have e : rstr l = l := h2 hs
    rw [e] at q
    exact ⟨.str (tx l), H, I, ⟨_, rfl⟩, q⟩
  | false =>
    rw [if_neg Bool.false_ne_true, h1]
    refine ⟨?_, .str (tx (rstr l)), H, I.tok _, ⟨_, rfl⟩, q⟩
    have := rstr_len l
    show (tx (rstr l)).length ≤ sizeLine
    rw [tx_len, sizeLine_eq]
    omega
theorem mt_strip : MtR X "str.strip" (fun x vs H Q => ∃ l, x = .str (tx l) ∧ vs = [.str (tx [32])] ∧ l.length ≤ 16777216 ∧ Q (.str (tx (rstr (lstr l)))) H) := by
  intro pins s σ H x vs v us Q I rx rv h
  obtain ⟨l, rfl, rfl, hz, q⟩ := h
  obtain ⟨t, rfl⟩ := rx
  obtain ⟨u, rfl, t', rfl⟩ := vals1 rv
  obtain ⟨h1, h2⟩ := strip_of l true
  refine call_gives F.slot_str_strip (typeIs_str _ _ _) F.entry_str_strip (F.args_str_strip_2 _ _) (gives_str_strip_chars _ _ _ _) ?_
  cases hs : stripSame (tx [32]).cps.contains true true (tx l) with
  | true =>
    rw [if_pos rfl]
    have e : rstr (lstr l) = l := h2 hs
    rw [e] at q
    exact ⟨.str (tx l), H, I, ⟨_, rfl⟩, q⟩
  | false =>
    rw [if_neg Bool.false_ne_true, h1]
    refine ⟨?_, .str (tx (rstr (lstr l))), H, I.tok _, ⟨_, rfl⟩, q⟩
    have := rstr_len (lstr l)
    have := lstr_len l
    show (tx (rstr (lstr l))).length ≤ sizeLine
    rw [tx_len, sizeLine_eq]
    omega
/-- c in text -/
theorem op_inS : OpR X (compareOp .In) (fun x y H Q => ∃ c l, x = .str (tx [c]) ∧ y = .str (tx l) ∧ Q (.bl (decide (c ∈ l))) H) := by
  intro pins s σ H x y v u Q I rx ry h
  obtain ⟨c, l, rfl, rfl, q⟩ := h
  refine op_in_str pins s σ H _ _ v u Q I rx ry ⟨tx [c], tx l, rfl, rfl, ?_⟩
  have e := StrLaws.found_one (tx l) c
  rw [tx_cps] at e
  show Q (.bl (!(Builtin.Str.occurrences (tx l) (tx [c]) 0 (tx l).length 1).isEmpty)) H
  have e2 : tx [c] = ⟨#[c]⟩ := rfl
  rw [e2, e]
  exact q
theorem ix_strS : IxR X (fun x y H Q => ∃ l i c, x = .str (tx l) ∧ y = .int i ∧ l.length ≤ 16777216 ∧ atI l i = some c ∧ Q (.str (tx [c])) H) := by
  intro value slice pins s σ H x y v u Q I rx ry h hs
  obtain ⟨l, i, c, rfl, rfl, hz, he, q⟩ := h
  exact ix_str value slice pins s σ H _ _ v u Q I rx ry ⟨tx l, i, c, rfl, rfl, by rw [tx_len, sizeLine_eq]; exact hz, by rw [tx_cps]; exact he, q⟩ hs
theorem call_lenS : CallR X (.builtin "len") (fun xs H Q => ∃ l, xs = [.str (tx l)] ∧ l.length ≤ 16777216 ∧ Q (.int l.length) H) := by
  intro pins s σ H xs us Q I r h
  obtain ⟨l, rfl, hz, q⟩ := h
  exact call_len_str pins s σ H _ us Q I r ⟨tx l, rfl, by rw [tx_len, sizeLine_eq]; exact hz, by rw [tx_len]; exact q⟩
/-! #### f"..{n}" -/
theorem pe_fstr {c : Str} {fpos pos cpos : Pos} {jj : Nat} {e : Expr} {te : TE} (he : PE X e te) (hc : c.length ≤ 1000 := by decide +kernel) : PE X (.JoinedStr [.Constant (.str c) jj cpos, .FormattedValue e (-1) none fpos] pos)
    (fun σ H Q => te σ H fun x H1 => ∃ i : Int, x = .int i ∧ i.natAbs.log2 < 1920 ∧ ((toString i : String) : Str).length ≤ 1000 ∧ ∀ z, Q (.str z) H1) := by
  intro pins s σ H Q I h
  have ln : sizeLine = 16777216 := sizeLine_eq
  refine JoinedStr_many (joinParts_cons (Calls.Constant_str ?_))
  have I1 : Inv X pins σ H { s with toks := s.toks + 1 } := I.tok _
  have ta : ∀ a b : Str, (a ++ b).length = a.length + b.length := fun a b => by
    show (a.cps ++ b.cps).size = _
    rw [Array.size_append]
    rfl
  have fin : wpAny (model X.prog X.w) X.A (eval (.FormattedValue e (-1) none fpos) X.env) (fun v s₁ => match v with | .str y _ => ((Str.empty ++ c) ++ y).length ≤ sizeLine ∧ wpAny (model X.prog X.w) X.A (joinParts ((Str.empty ++ c) ++ y) []) (EP X pins σ Q) X.xe s₁ | _ => False) X.xe { s with toks := s.toks + 1 } := by
    refine FormattedValue_plain (thn (he pins _ σ H _ I1 h) fun v s1 ⟨x, H1, I2, r1, i, e1, hi, h2, q⟩ => ?_)
    subst e1
    obtain ⟨t, rfl⟩ := r1
    refine formatField_int_small hi ?_
    have z : ((Str.empty ++ c) ++ ((toString i : String) : Str)).length ≤ sizeLine := by
      rw [ta, ta, ln]
      show 0 + c.length + _ ≤ _
      omega
    exact ⟨z, joinParts_nil ⟨.str _, H1, (I2.tok _).tok _, ⟨_, rfl⟩, q _⟩ z⟩
  exact ⟨by rw [ta, ln]; show 0 + c.length ≤ _; omega, joinParts_cons fin⟩
/-! #### for over a text -/
def Its (l : List Nat) : It := ⟨fun i _ => i < l.length, fun i H x H' => H' = H ∧ ∃ c, l[i]? = some c ∧ x = .str (tx [c]), fun i _ => l.length ≤ i⟩
theorem turn_str {P : Program} {w : World} {K : PySem.W.Frag} {T : String} (hT : T = "str_ascii_iterator" ∨ T = "str_iterator") (l : List Nat) (t : Tok) (it : Addr) : Turn P w K tg (Its l) [it] it (fun i h => h.IsStrIter it T (tx l) t i) where
  mem := by simp
  obj := fun i h st b hb => by
    have e : b = it := by simpa using hb
    subst e
    obtain ⟨o, e, c, d⟩ := st
    exact ⟨o, e, fun v z => by rw [d] at z; cases z⟩
  keep := fun i h h' st k => by
    obtain ⟨o, e, r⟩ := st
    exact ⟨o, k it (by simp) o e, r⟩
  item := by
    intro X hP hw hK hc i pins s σ H E I hf st hg
    subst hP hw hK
    obtain ⟨f0, f1, f2, f3, f4, f5⟩ := hf it (by simp)
    have hi : i < l.length := hg
    have hx : (tx l).cps[i]? = some l[i] := by
      rw [← Array.getElem?_toList, tx_cps]
      exact List.getElem?_eq_getElem hi
    have fin : ∀ h', h'.IsStrIter it T (tx l) t (i + 1) → Heap.SameBut it s.heap h' → ∃ u, some (Value.str ⟨#[l[i]]⟩ s.toks) = some u ∧
        wpAny (model X.prog X.w) X.A (letOwnedTupleGo tg (.ref it) u) (fun _ s2 => ∃ x H', Inv X pins σ H' s2 ∧ RelV x u ∧ (Its l).yld i H x H' ∧ s2.heap.IsStrIter it T (tx l) t (i + 1) ∧ ∀ b ∈ [it], H' b = none) E { s with heap := h', toks := s.toks + 1 } := fun h' st' sb => by
      have I1 : Inv X pins σ H { s with heap := h', toks := s.toks + 1 } := I.turned (fun b o hb e => (sb.2 b hb).trans e) f0 f1 f3 f4 f5
      obtain ⟨o, e, c, d⟩ := id st'
      refine ⟨_, rfl, go_of (s := { s with heap := h', toks := s.toks + 1 }) e c d ?_ ⟨.str (tx [l[i]]), H, I1, ⟨_, rfl⟩, ⟨rfl, l[i], List.getElem?_eq_getElem hi, rfl⟩, st', fun b hb => (hf b hb).1⟩⟩
      rcases hT with rfl | rfl <;> decide
    rcases hT with rfl | rfl
    · exact wpAny_pyNext_ascii_item st hx fin
    · exact wpAny_pyNext_wide_item st hx fin
  done := by
    intro X hP hw hK hc i pins s σ H E I hf st hg
    subst hP hw hK
    obtain ⟨f0, f1, f2, f3, f4, f5⟩ := hf it (by simp)
    have hi : l.length ≤ i := hg
    have hx : (tx l).cps[i]? = none := by
      rw [← Array.getElem?_toList, tx_cps]
      exact List.getElem?_eq_none hi
    rcases hT with rfl | rfl
    · exact wpAny_pyNext_ascii_end (I.ok.hd hc) st hx fun h' eb => ⟨rfl, I.turned (t' := s.toks) (fun b o hb e => eb b o hb e) f0 f1 f3 f4 f5⟩
    · exact wpAny_pyNext_wide_end (I.ok.hd hc) st hx fun h' eb => ⟨rfl, I.turned (t' := s.toks) (fun b o hb e => eb b o hb e) f0 f1 f3 f4 f5⟩
  self := fun _ _ _ _ _ st h => by
    rcases hT with rfl | rfl
    · exact wpAny_pyIter_striter_ascii st h
    · exact wpAny_pyIter_striter_wide st h
def iStr (tl : TE) : TI := fun σ H R => tl σ H fun x H1 => ∃ l, x = .str (tx l) ∧ R (Its l) H1
theorem pi_str {l : Expr} {tl : TE} (hl : PE X l tl) : PI X tg l (iStr tl) := by
  intro pins s σ H R I h
  refine thn (hl pins s σ H _ I h) fun v s1 ⟨x, H1, I1, r1, q1⟩ => ?_
  obtain ⟨z, rfl, q⟩ := q1
  obtain ⟨t, rfl⟩ := r1
  have fin : ∀ T, (T = "str_ascii_iterator" ∨ T = "str_iterator") → PIE X pins σ tg R (.ref s1.heap.objs.size) { s1 with heap := s1.heap.push { cls := .type T, data := .fields #[.str (tx z) t, .int 0 0] } } := fun T hT => by
    refine ⟨s1.heap.objs.size, [s1.heap.objs.size], _, _, H1, rfl, I1.kept (t' := s1.toks) fun b o e => Heap.get?_push_of_some _ e, turn_str hT z t _, ⟨_, Heap.get?_push_size _ rfl, rfl, rfl⟩, fun b hb => ?_, q⟩
    have e : b = s1.heap.objs.size := by simpa using hb
    subst e
    exact I1.fpOk (Nat.le_refl _) (I1.hok.fresh (Nat.le_refl _))
  cases ha : (tx z).cps.all (· < 128)
  · exact wpAny_pyIter_wide ha (fin _ (.inr rfl))
  · exact wpAny_pyIter_ascii ha (fin _ (.inl rfl))
end
theorem for_str {l : List Nat} {g : TG} {tb : TS} {D : Ends} {σ : St} {H : Hp} (Pv : Nat → St → Hp → Prop) (h0 : Pv 0 σ H)
    (hs : ∀ i c σ H, l[i]? = some c → Pv i σ H → g (.str (tx [c])) σ H fun σ2 H2 => tb { D with nx := Pv (i + 1), ct := Pv (i + 1), bk := D.nx } σ2 H2) (hd : ∀ σ H, Pv l.length σ H → D.nx σ H) :
    ∃ W : Nat → Nat → St → Hp → Prop, (∃ m, W 0 m σ H) ∧ ∀ i m σ H, W i m σ H →
      ((Its l).stop i H ∧ D.nx σ H) ∨ ((Its l).go i H ∧ ∃ N : St → Hp → Prop, (∀ σ' H', N σ' H' → ∃ m', m' < m ∧ W (i + 1) m' σ' H') ∧ ∀ x H', (Its l).yld i H x H' → g x σ H' fun σ2 H2 => tb { D with nx := N, ct := N, bk := D.nx } σ2 H2) := by
  refine ⟨fun i m σ H => m = l.length - i ∧ i ≤ l.length ∧ Pv i σ H, ⟨l.length, by simp, Nat.zero_le _, h0⟩, ?_⟩
  rintro i m σ H ⟨rfl, hi, p⟩
  by_cases hlt : i < l.length
  · refine .inr ⟨hlt, Pv (i + 1), fun σ' H' p' => ⟨l.length - (i + 1), by omega, rfl, hlt, p'⟩, fun x H' y => ?_⟩
    obtain ⟨e, c, hc, y⟩ := y
    subst e y
    exact hs i c σ _ hc p
  · have e : i = l.length := by omega
    subst e
    exact .inl ⟨Nat.le_refl _, hd σ H p⟩
end L2
/-! ### zip and enumerate, walked -/
namespace L2
open PySem PySem.Spec PyProof.Rows
structure ZA (z TI TO i1 i2 : Addr) : Prop where
  TIz : TI ≠ z
  TOz : TO ≠ z
  i1z : i1 ≠ z
  i2z : i2 ≠ z
  TITO : TI ≠ TO
  TIi1 : TI ≠ i1
  TIi2 : TI ≠ i2
  TOi1 : TO ≠ i1
  TOi2 : TO ≠ i2
  i12 : i1 ≠ i2
/-- how things stand while a zip draws: the record z marked f0, the pair kept for the next answer, what each source says, and all else as it was in h0 -/
structure ZipSt (z TI TO i1 i2 : Addr) (h0 : Heap) (f0 a b : Value) (S1 S2 : Heap → Prop) (h : Heap) : Prop where
  rec_ : IsZip h z TI TO f0
  pair : IsPair h TO a b
  one : S1 h
  two : S2 h
  size : h.objs.size = h0.objs.size
  rest : ∀ c o, c ≠ z → c ≠ TO → c ≠ i1 → c ≠ i2 → h0.get? c = some o → h.get? c = some o
/-- what one source says, kept over a change at an address that is not its own -/
def Deaf (S : Heap → Prop) (c : Addr) : Prop := ∀ h h', S h → Heap.SameBut c h h' → S h'
theorem draws_deaf {prog : Program} {w : World} {A : Around} {it : Addr} {fp : List Addr} {n : Nat} {P : Nat → Value → Prop} {St : Nat → Heap → Prop} (D : Draws prog w A it fp n P St) (i : Nat) {c : Addr} (h : c ∉ fp) : Deaf (St i) c := by
  intro h1 h2 st sb
  refine D.frame i h1 h2 st ?_
  intro b m o q
  exact sb.extBut b o (fun e => h (e ▸ m)) q
section
variable {z TI TO i1 i2 : Addr} {h0 h h' : Heap} {f0 f1 a b a' b' : Value} {S1 S2 S' : Heap → Prop}
theorem ZipSt.mark (D : ZA z TI TO i1 i2) (x : ZipSt z TI TO i1 i2 h0 f0 a b S1 S2 h) (d1 : Deaf S1 z) (d2 : Deaf S2 z) (sb : Heap.SameBut z h h') (r : IsZip h' z TI TO f1) : ZipSt z TI TO i1 i2 h0 f1 a b S1 S2 h' :=
  ⟨r, sb.extBut _ _ D.TOz x.pair, d1 _ _ x.one sb, d2 _ _ x.two sb, sb.1.trans x.size, fun c o n1 n2 n3 n4 q => sb.extBut c o n1 (x.rest c o n1 n2 n3 n4 q)⟩
theorem ZipSt.put (D : ZA z TI TO i1 i2) (x : ZipSt z TI TO i1 i2 h0 f0 a b S1 S2 h) (d1 : Deaf S1 TO) (d2 : Deaf S2 TO) (sb : Heap.SameBut TO h h') (r : IsPair h' TO a' b') : ZipSt z TI TO i1 i2 h0 f0 a' b' S1 S2 h' :=
  ⟨sb.extBut _ _ D.TOz.symm x.rec_, r, d1 _ _ x.one sb, d2 _ _ x.two sb, sb.1.trans x.size, fun c o n1 n2 n3 n4 q => sb.extBut c o n2 (x.rest c o n1 n2 n3 n4 q)⟩
theorem ZipSt.draw1 (D : ZA z TI TO i1 i2) (x : ZipSt z TI TO i1 i2 h0 f0 a b S1 S2 h) (d2 : Deaf S2 i1) (sb : Heap.SameBut i1 h h') (r : S' h') : ZipSt z TI TO i1 i2 h0 f0 a b S' S2 h' :=
  ⟨sb.extBut _ _ D.i1z.symm x.rec_, sb.extBut _ _ D.TOi1 x.pair, r, d2 _ _ x.two sb, sb.1.trans x.size, fun c o n1 n2 n3 n4 q => sb.extBut c o n3 (x.rest c o n1 n2 n3 n4 q)⟩
theorem ZipSt.draw2 (D : ZA z TI TO i1 i2) (x : ZipSt z TI TO i1 i2 h0 f0 a b S1 S2 h) (d1 : Deaf S1 i2) (sb : Heap.SameBut i2 h h') (r : S' h') : ZipSt z TI TO i1 i2 h0 f0 a b S1 S' h' :=
  ⟨sb.extBut _ _ D.i2z.symm x.rec_, sb.extBut _ _ D.TOi2 x.pair, d1 _ _ x.one sb, r, sb.1.trans x.size, fun c o n1 n2 n3 n4 q => sb.extBut c o n4 (x.rest c o n1 n2 n3 n4 q)⟩
end
section
variable {prog : Program} {w : World} {A : Around} {E : Value → Shared → Prop} {s : Shared} {z TI TO i1 i2 : Addr} {fp1 fp2 : List Addr} {n1 n2 k : Nat} {P1 P2 : Nat → Value → Prop} {St1 St2 : Nat → Heap → Prop} {a b : Value}
/-- both sources have one more: the answer is a new pair -/
theorem zipD_item {Q : Value → Shared → Prop} (D : ZA z TI TO i1 i2) (D1 : Draws prog w A i1 fp1 n1 P1 St1) (D2 : Draws prog w A i2 fp2 n2 P2 St2) (m1 : k < n1) (m2 : k < n2)
    (f1 : z ∉ fp1) (f2 : z ∉ fp2) (f3 : TO ∉ fp1) (f4 : TO ∉ fp2) (f5 : i1 ∉ fp2) (f6 : i2 ∉ fp1) (r : IsZip s.heap z TI TO .none) (its : IsPair s.heap TI (.ref i1) (.ref i2)) (pr : IsPair s.heap TO a b) (st1 : St1 k s.heap) (st2 : St2 k s.heap)
    (fin : ∀ x y h' tk, P1 k x → P2 k y → IsZip h' z TI TO (rawInt s.heap.objs.size) → IsPair h' TO x y → St1 (k + 1) h' → St2 (k + 1) h' → IsPair h' s.heap.objs.size x y → h'.objs.size = s.heap.objs.size + 1 →
      (∀ c o, c ≠ z → c ≠ TO → c ≠ i1 → c ≠ i2 → s.heap.get? c = some o → h'.get? c = some o) → Q (.ref s.heap.objs.size) { s with heap := h', toks := tk }) :
    wpAny (model prog w) A (Builtin.«zip.__next__» ⟨[.ref z], []⟩) (fun f s' => ∃ v, f = .done (.ret v) ∧ Q v s') E s := by
  rcases s with ⟨hp, gens, drawn, t0, os⟩
  have x0 : ZipSt z TI TO i1 i2 hp .none a b (St1 k) (St2 k) hp := ⟨r, pr, st1, st2, rfl, fun _ _ _ _ _ _ q => q⟩
  show wpAny _ _ (field _ 2 >>= _) _ _ _
  apply wpAny_bind
  refine wpAny_field r rfl (x := .bool false) rfl ?_
  show wpAny _ _ (field _ 3 >>= _) _ _ _
  apply wpAny_bind
  refine wpAny_field r rfl (x := .ref TI) rfl ?_
  apply wpAny_bind
  refine wpAny_seqItems its rfl ?_
  show wpAny _ _ (Builtin.SmallTypes.ownedTupleIsFree _ >>= _) _ _ _
  apply wpAny_bind
  delta Builtin.SmallTypes.ownedTupleIsFree
  apply wpAny_bind
  refine wpAny_field r rfl (x := .none) rfl ?_
  apply wpAny_pure
  simp only [if_true]
  apply wpAny_bind
  apply wpAny_rule
  apply wpAny_bind
  refine wpAny_field r rfl (x := .ref TO) rfl ?_
  apply wpAny_bind
  refine wpAny_setField_rec r (by simp) fun h1 r1 sb1 => ?_
  have x1 : ZipSt z TI TO i1 i2 hp .ellipsis a b (St1 k) (St2 k) h1 := x0.mark D (draws_deaf D1 k f1) (draws_deaf D2 k f2) sb1 r1
  apply wpAny_bind
  simp only [List.zipIdx_cons, List.zipIdx_nil, List.forIn_cons]
  -- the first source
  apply wpAny_bind
  apply wpAny_bind
  apply wpAny_onRaise
  show wpAny _ _ (Builtin.SmallTypes.nextOf _ >>= _) _ _ _
  apply wpAny_bind
  refine D1.item k _ _ _ m1 x1.one fun x h2 t2 px one2 sb2 => ?_
  have x2 := x1.draw1 D (draws_deaf D2 k f5) sb2 one2
  apply wpAny_pure
  apply wpAny_bind
  refine wpAny_seqItems x2.pair rfl ?_
  apply wpAny_bind
  refine wpAny_updateSeq_pair x2.pair fun h3 p3 sb3 => ?_
  have x3 : ZipSt z TI TO i1 i2 hp .ellipsis x b (St1 (k + 1)) (St2 k) h3 := x2.put D (draws_deaf D1 _ f3) (draws_deaf D2 _ f4) sb3 p3
  apply wpAny_bind
  apply wpAny_letGo
  apply wpAny_pure
  -- the second
  apply wpAny_bind
  apply wpAny_bind
  apply wpAny_onRaise
  show wpAny _ _ (Builtin.SmallTypes.nextOf _ >>= _) _ _ _
  apply wpAny_bind
  refine D2.item k _ _ _ m2 x3.two fun y h4 t4 py two4 sb4 => ?_
  have x4 := x3.draw2 D (draws_deaf D1 _ f6) sb4 two4
  apply wpAny_pure
  apply wpAny_bind
  refine wpAny_seqItems x4.pair rfl ?_
  apply wpAny_bind
  refine wpAny_updateSeq_pair x4.pair fun h5 p5 sb5 => ?_
  have x5 : ZipSt z TI TO i1 i2 hp .ellipsis x y (St1 (k + 1)) (St2 (k + 1)) h5 := x4.put D (draws_deaf D1 _ f3) (draws_deaf D2 _ f4) sb5 p5
  apply wpAny_bind
  apply wpAny_letGo
  apply wpAny_pure
  apply wpAny_pure
  -- the answer
  apply wpAny_bind
  refine wpAny_seqItems x5.pair rfl ?_
  apply wpAny_bind
  refine wpAny_newTuple ?_
  have lt : z < h5.objs.size := Heap.lt_size x5.rec_
  show wpAny _ _ (Builtin.SmallTypes.ownedTupleHandOut _ _ >>= _) _ _ _
  apply wpAny_bind
  delta Builtin.SmallTypes.ownedTupleHandOut
  apply wpAny_bind
  refine wpAny_setField_rec (Heap.get?_push_of_some _ x5.rec_) (by simp) fun h7 r7 sb7 => ?_
  refine wpAny_setField_rec r7 (by simp) fun h8 r8 sb8 => ?_
  have late : ∀ c o, c ≠ z → h5.get? c = some o → h8.get? c = some o := fun c o nc q => sb8.extBut c o nc (sb7.extBut c o nc (Heap.get?_push_of_some _ q))
  have kept : ∀ {S : Heap → Prop} {fp : List Addr}, S h5 → (∀ h h', S h → (∀ c ∈ fp, ∀ o, h.get? c = some o → h'.get? c = some o) → S h') → z ∉ fp → S h8 := fun {S fp} q fr nz => fr _ _ q fun c m o e => late c o (fun z' => nz (z' ▸ m)) e
  have new8 : IsPair h8 h5.objs.size x y := sb8.extBut _ _ (Nat.ne_of_gt lt) (sb7.extBut _ _ (Nat.ne_of_gt lt) (Heap.get?_push_size _ rfl))
  have size8 : h8.objs.size = h5.objs.size + 1 := by rw [sb8.1, sb7.1, Heap.size_push]
  have rec8 : IsZip h8 z TI TO (rawInt h5.objs.size) := r8
  have e5 := x5.size
  refine wpAny_pure ⟨_, rfl, ?_⟩
  show Q (.ref h5.objs.size) _
  rw [e5] at new8 size8 rec8 ⊢
  exact fin x y h8 t4 px py rec8 (late _ _ D.TOz x5.pair) (kept x5.one (D1.frame _) f1) (kept x5.two (D2.frame _) f2) new8 size8 fun c o c1 c2 c3 c4 q => late c o c1 (x5.rest c o c1 c2 c3 c4 q)
/-- a source has no more -/
theorem zipD_end {Q : Fin → Shared → Prop} (D : ZA z TI TO i1 i2) (D1 : Draws prog w A i1 fp1 n1 P1 St1) (D2 : Draws prog w A i2 fp2 n2 P2 St2) (over : k = n1 ∨ (k < n1 ∧ k = n2)) (f1 : z ∉ fp1) (f2 : z ∉ fp2) (f3 : TO ∉ fp1) (f4 : TO ∉ fp2) (f5 : i1 ∉ fp2)
    (r : IsZip s.heap z TI TO .none) (its : IsPair s.heap TI (.ref i1) (.ref i2)) (pr : IsPair s.heap TO a b) (st1 : St1 k s.heap) (st2 : St2 k s.heap)
    (fin : ∀ h' e tk, (∀ c o, c ≠ z → c ≠ TO → c ≠ i1 → c ≠ i2 → s.heap.get? c = some o → h'.get? c = some o) → (∃ o, h'.get? e = some o ∧ o.cls = .type "StopIteration") → E (.ref e) { s with heap := h', toks := tk }) :
    wpAny (model prog w) A (Builtin.«zip.__next__» ⟨[Value.ref z], []⟩) Q E s := by
  rcases s with ⟨hp, gens, drawn, t0, os⟩
  have x0 : ZipSt z TI TO i1 i2 hp .none a b (St1 k) (St2 k) hp := ⟨r, pr, st1, st2, rfl, fun _ _ _ _ _ _ q => q⟩
  have other : ∀ {h : Heap} {e : Addr} {f : Value} {o : Obj}, IsZip h z TI TO f → h.get? e = some o → o.cls = .type "StopIteration" → e ≠ z := fun {h e f o} q qe qc ez => by
    rw [ez, q] at qe
    cases qe
    simp at qc
  show wpAny _ _ (field _ 2 >>= _) _ _ _
  apply wpAny_bind
  refine wpAny_field r rfl (x := .bool false) rfl ?_
  show wpAny _ _ (field _ 3 >>= _) _ _ _
  apply wpAny_bind
  refine wpAny_field r rfl (x := .ref TI) rfl ?_
  apply wpAny_bind
  refine wpAny_seqItems its rfl ?_
  show wpAny _ _ (Builtin.SmallTypes.ownedTupleIsFree _ >>= _) _ _ _
  apply wpAny_bind
  delta Builtin.SmallTypes.ownedTupleIsFree
  apply wpAny_bind
  refine wpAny_field r rfl (x := .none) rfl ?_
  apply wpAny_pure
  simp only [if_true]
  apply wpAny_bind
  apply wpAny_rule
  apply wpAny_bind
  refine wpAny_field r rfl (x := .ref TO) rfl ?_
  apply wpAny_bind
  refine wpAny_setField_rec r (by simp) fun h1 r1 sb1 => ?_
  have x1 : ZipSt z TI TO i1 i2 hp .ellipsis a b (St1 k) (St2 k) h1 := x0.mark D (draws_deaf D1 k f1) (draws_deaf D2 k f2) sb1 r1
  apply wpAny_bind
  simp only [List.zipIdx_cons, List.zipIdx_nil, List.forIn_cons]
  apply wpAny_bind
  apply wpAny_bind
  apply wpAny_onRaise
  show wpAny _ _ (Builtin.SmallTypes.nextOf _ >>= _) _ _ _
  apply wpAny_bind
  by_cases first : k = n1
  · subst first
    refine D1.done _ _ _ x1.one fun h2 e ext he => ?_
    obtain ⟨oe, ae, ce⟩ := he
    have r2 : IsZip h2 z TI TO .ellipsis := ext _ _ D.i1z.symm x1.rec_
    refine wpAny_setField_rec r2 (by simp) fun h3 _ sb3 => ?_
    exact fin h3 e t0 (fun c o c1 c2 c3 c4 q => sb3.extBut c o c1 (ext c o c3 (x1.rest c o c1 c2 c3 c4 q))) ⟨oe, sb3.extBut _ _ (other r2 ae ce) ae, ce⟩
  · obtain ⟨lt, e2⟩ := over.resolve_left first
    subst e2
    refine D1.item k _ _ _ lt x1.one fun x h2 t2 px one2 sb2 => ?_
    have x2 := x1.draw1 D (draws_deaf D2 k f5) sb2 one2
    apply wpAny_pure
    apply wpAny_bind
    refine wpAny_seqItems x2.pair rfl ?_
    apply wpAny_bind
    refine wpAny_updateSeq_pair x2.pair fun h3 p3 sb3 => ?_
    have x3 : ZipSt z TI TO i1 i2 hp .ellipsis x b (St1 (k + 1)) (St2 k) h3 := x2.put D (draws_deaf D1 _ f3) (draws_deaf D2 _ f4) sb3 p3
    apply wpAny_bind
    apply wpAny_letGo
    apply wpAny_pure
    apply wpAny_bind
    apply wpAny_bind
    apply wpAny_onRaise
    show wpAny _ _ (Builtin.SmallTypes.nextOf _ >>= _) _ _ _
    apply wpAny_bind
    refine D2.done _ _ _ x3.two fun h4 e ext he => ?_
    obtain ⟨oe, ae, ce⟩ := he
    have r4 : IsZip h4 z TI TO .ellipsis := ext _ _ D.i2z.symm x3.rec_
    refine wpAny_setField_rec r4 (by simp) fun h5 _ sb5 => ?_
    exact fin h5 e t2 (fun c o c1 c2 c3 c4 q => sb5.extBut c o c1 (ext c o c4 (x3.rest c o c1 c2 c3 c4 q))) ⟨oe, sb5.extBut _ _ (other r4 ae ce) ae, ce⟩
theorem pyNext_zipD {Q : Option Value → Shared → Prop} (D : ZA z TI TO i1 i2) (D1 : Draws prog w A.in1 i1 fp1 n1 P1 St1) (D2 : Draws prog w A.in1 i2 fp2 n2 P2 St2) (m1 : k < n1) (m2 : k < n2)
    (f1 : z ∉ fp1) (f2 : z ∉ fp2) (f3 : TO ∉ fp1) (f4 : TO ∉ fp2) (f5 : i1 ∉ fp2) (f6 : i2 ∉ fp1) (r : IsZip s.heap z TI TO .none) (its : IsPair s.heap TI (.ref i1) (.ref i2)) (pr : IsPair s.heap TO a b) (st1 : St1 k s.heap) (st2 : St2 k s.heap)
    (fin : ∀ x y h' tk, P1 k x → P2 k y → IsZip h' z TI TO (rawInt s.heap.objs.size) → IsPair h' TO x y → St1 (k + 1) h' → St2 (k + 1) h' → IsPair h' s.heap.objs.size x y → h'.objs.size = s.heap.objs.size + 1 →
      (∀ c o, c ≠ z → c ≠ TO → c ≠ i1 → c ≠ i2 → s.heap.get? c = some o → h'.get? c = some o) → Q (some (.ref s.heap.objs.size)) { s with heap := h', toks := tk }) : wpAny (model prog w) A (pyNext (.ref z)) Q E s := by
  have ty : s.TypeIs (.ref z) "zip" := ⟨_, r, rfl⟩
  unfold pyNext
  apply wpAny_bind
  apply wpAny_attempt
  refine wpAny_callSpecial?_slot (name := Str.ofString "__next__") ty F.slot_zip_next ?_
  refine wpAny_call_entry F.slot_zip_next ty F.entry_zip_next ?_ (F.args_zip_next_1 _)
  refine zipD_item D D1 D2 m1 m2 f1 f2 f3 f4 f5 f6 r its pr st1 st2 ?_
  intro x y h' tk q1 q2 q3 q4 q5 q6 q7 q8 q9
  exact wpAny_pure (fin x y h' tk q1 q2 q3 q4 q5 q6 q7 q8 q9)
theorem pyNext_zipD_end {Q : Option Value → Shared → Prop} (D : ZA z TI TO i1 i2) (D1 : Draws prog w A.in1 i1 fp1 n1 P1 St1) (D2 : Draws prog w A.in1 i2 fp2 n2 P2 St2) (over : k = n1 ∨ (k < n1 ∧ k = n2)) (f1 : z ∉ fp1) (f2 : z ∉ fp2) (f3 : TO ∉ fp1) (f4 : TO ∉ fp2) (f5 : i1 ∉ fp2)
    (r : IsZip s.heap z TI TO .none) (its : IsPair s.heap TI (.ref i1) (.ref i2)) (pr : IsPair s.heap TO a b) (st1 : St1 k s.heap) (st2 : St2 k s.heap)
    (fin : ∀ h' tk, (∀ c o, c ≠ z → c ≠ TO → c ≠ i1 → c ≠ i2 → s.heap.get? c = some o → h'.get? c = some o) → Q none { s with heap := h', toks := tk }) : wpAny (model prog w) A (pyNext (.ref z)) Q E s := by
  have ty : s.TypeIs (.ref z) "zip" := ⟨_, r, rfl⟩
  unfold pyNext
  apply wpAny_bind
  apply wpAny_attempt
  refine wpAny_callSpecial?_slot (name := Str.ofString "__next__") ty F.slot_zip_next ?_
  refine wpAny_call_entry F.slot_zip_next ty F.entry_zip_next ?_ (F.args_zip_next_1 _)
  refine zipD_end D D1 D2 over f1 f2 f3 f4 f5 r its pr st1 st2 ?_
  intro h' e tk keep stop
  obtain ⟨o, q, c⟩ := stop
  apply wpAny_bind
  refine wpAny_isInstance (T := "StopIteration") (b := true) ⟨o, q, c⟩ isSubtype_stop ?_
  exact wpAny_pure (fin h' tk keep)
end
/-! #### the state seen from outside: records turned, a tuple handed out -/
section
variable {X : Cx} {pins : List (Addr × Obj)} {σ : List (Option V)} {H : Hp} {s : Shared} {h' : Heap}
theorem Inv.turnedNew {t' : Nat} {ch : List Addr} {T0 : Addr} {xs : List V} {its : List Value} (I : Inv X pins σ H s) (hch : ∀ b ∈ ch, FpOk X pins H b) (k : ∀ b o, b ∉ ch → s.heap.get? b = some o → h'.get? b = some o)
    (hT : s.heap.objs.size ≤ T0) (r : Vals xs its) (hz : xs.length ≤ sizeLine) (ht : IsTup h' T0 its.toArray) : Inv X pins σ (upd H T0 (.tup xs)) { s with heap := h', toks := t' } := by
  have nit : ∀ b u, H b = some u → b ∉ ch := fun b u e z => by rw [(hch b z).1] at e; cases e
  have nT : ∀ b u, H b = some u → b ≠ T0 := fun b u e z => by rw [z, I.hok.fresh hT] at e; cases e
  have nT' : ∀ b o, s.heap.get? b = some o → b ≠ T0 := fun b o e => Nat.ne_of_lt (Nat.lt_of_lt_of_le (Heap.lt_size e) hT)
  refine I.step (g' := s.gens) (d' := s.drawn) (ch := ch) (fun b hb => ?_) (fun b o _ _ hc e _ => k b o hc e) (fun b o _ _ hc e _ => ⟨o.slots, k b o hc e⟩) (fun b o _ e n => by rw [upd_ne (nT' b o e)]; exact n)
    (fun b o hc e => ⟨o, k b o hc e⟩) (fun b ys e => by rw [upd_ne (nT b _ e)]; exact e) (fun b o u e => by rw [upd_ne (nT b _ e)]; exact e) (fun b ps e => ⟨#[], by rw [upd_ne (nT b _ e), e]; simp⟩) (fun m hm => ?_) (fun b u e => ?_) I.bare
  · obtain ⟨_, g1, _, g3, g4, g5⟩ := hch b hb
    exact ⟨g3, g1, g4, g5⟩
  · obtain ⟨o, es, ep, ho, r⟩ := hm
    exact ⟨o, es, ep, k _ o (fun z => (hch _ z).2.1 rfl) ho, r⟩
  · by_cases hb : b = T0
    · subst hb
      rw [upd_same] at e
      cases e
      exact ⟨hz, its, r, ht⟩
    · rw [upd_ne hb] at e
      refine (I.hok b u e).stay (fun c v hc q => k c v ?_ q) (fun c z => by rw [upd_ne (nT c _ z)]; exact z) fun c ys z => by rw [upd_ne (nT c _ z)]; exact z
      rcases hc with z | z
      · rw [z]; exact nit b u e
      · exact nit c _ z
theorem Inv.turnedAll {t' : Nat} {ch : List Addr} (I : Inv X pins σ H s) (hch : ∀ b ∈ ch, FpOk X pins H b) (k : ∀ b o, b ∉ ch → s.heap.get? b = some o → h'.get? b = some o) : Inv X pins σ H { s with heap := h', toks := t' } := by
  have nit : ∀ b u, H b = some u → b ∉ ch := fun b u e z => by rw [(hch b z).1] at e; cases e
  refine I.step (g' := s.gens) (d' := s.drawn) (ch := ch) (fun b hb => ?_) (fun b o _ _ hc e _ => k b o hc e) (fun b o _ _ hc e _ => ⟨o.slots, k b o hc e⟩) (fun _ _ _ _ n => n)
    (fun b o hc e => ⟨o, k b o hc e⟩) (fun _ _ e => e) (fun _ _ _ e => e) (fun b ps e => ⟨#[], by rw [e]; simp⟩) (fun m hm => ?_) (fun b u e => ?_) I.bare
  · obtain ⟨_, g1, _, g3, g4, g5⟩ := hch b hb
    exact ⟨g3, g1, g4, g5⟩
  · obtain ⟨o, es, ep, ho, r⟩ := hm
    exact ⟨o, es, ep, k _ o (fun z => (hch _ z).2.1 rfl) ho, r⟩
  · refine (I.hok b u e).stay (fun c v hc q => k c v ?_ q) (fun _ q => q) fun _ _ q => q
    rcases hc with z | z
    · rw [z]; exact nit b u e
    · exact nit c _ z
end
/-- two things walked side by side -/
def Itz (J1 J2 : It) : It := ⟨fun i H => J1.go i H ∧ J2.go i H, fun i H v H' => ∃ T x y, H T = none ∧ v = .ref T ∧ J1.yld i H x H ∧ J2.yld i H y H ∧ H' = upd H T (.tup [x, y]), fun i H => (J1.stop i H ∧ (J2.go i H ∨ J2.stop i H)) ∨ (J1.go i H ∧ J2.stop i H)⟩
/-- what may be zipped: its iterator at it, by a Draws of this very moment -/
structure Src (P : Program) (w : World) (K : PySem.W.Frag) (J : It) (it : Addr) (tn : Nat → Heap → Prop) : Prop where
  obj : ∀ i h, tn i h → ∃ o, h.get? it = some o ∧ (∀ v, o.data ≠ .cell v) ∧ o.cls ≠ .type "list"
  keep : ∀ i h h', tn i h → (∀ o, h.get? it = some o → h'.get? it = some o) → tn i h'
  draw : ∀ (X : Cx), X.prog = P → X.w = w → X.K = K → ∀ (i : Nat) (pins : List (Addr × Obj)) (s : Shared) (σ : St) (H : Hp), Inv X pins σ H s → tn i s.heap → (J.go i H ∨ J.stop i H) → ∀ A : Around, A.handled = none →
    ∃ (fp : List Addr) (n : Nat) (Pv : Nat → Value → Prop) (St : Nat → Heap → Prop), Draws P w A it fp n Pv St ∧ St i s.heap ∧ (∀ c ∈ fp, c = it ∨ ∃ o, s.heap.get? c = some o ∧ o.cls = .type "list") ∧ (∀ j h, St j h → tn j h) ∧ (J.go i H → i < n) ∧ (J.stop i H → i = n) ∧
      ∀ u, Pv i u → ∃ x, RelV x u ∧ J.yld i H x H
theorem turn_zip {P : Program} {w : World} {K : PySem.W.Frag} {elts : List Expr} {x1 : Nat} {pos : Pos} {J1 J2 : It} {z TI TO i1 i2 : Addr} {t1 t2 : Nat → Heap → Prop} (D : ZA z TI TO i1 i2) (S1 : Src P w K J1 i1 t1) (S2 : Src P w K J2 i2 t2) :
    Turn P w K (.Tuple elts x1 pos) (Itz J1 J2) [z, TI, TO, i1, i2] z (fun i h => IsZip h z TI TO .none ∧ IsPair h TI (.ref i1) (.ref i2) ∧ (∃ a b, IsPair h TO a b) ∧ t1 i h ∧ t2 i h) where
  mem := by simp
  obj := fun i h st b hb => by
    obtain ⟨hz, hTI, ⟨a, c, hTO⟩, h1, h2⟩ := st
    have dz : ∀ {o : Obj} {vs : Array Value}, o.data = .fields vs → ∀ v, o.data ≠ .cell v := fun e v q => by rw [e] at q; cases q
    have ds : ∀ {o : Obj} {vs : Array Value} {n : Nat}, o.data = .seq vs n → ∀ v, o.data ≠ .cell v := fun e v q => by rw [e] at q; cases q
    simp only [List.mem_cons, List.not_mem_nil, or_false] at hb
    rcases hb with rfl | rfl | rfl | rfl | rfl
    · exact ⟨_, hz, dz rfl⟩
    · exact ⟨_, hTI, ds rfl⟩
    · exact ⟨_, hTO, ds rfl⟩
    · obtain ⟨o, e, q, _⟩ := S1.obj _ _ h1; exact ⟨o, e, q⟩
    · obtain ⟨o, e, q, _⟩ := S2.obj _ _ h2; exact ⟨o, e, q⟩
  keep := fun i h h' st k => by
    obtain ⟨hz, hTI, ⟨a, c, hTO⟩, h1, h2⟩ := st
    exact ⟨k z (by simp) _ hz, k TI (by simp) _ hTI, ⟨a, c, k TO (by simp) _ hTO⟩, S1.keep _ _ _ h1 fun o e => k i1 (by simp) o e, S2.keep _ _ _ h2 fun o e => k i2 (by simp) o e⟩
  item := by
    intro X hP hw hK hc i pins s σ H E I hf st hg
    obtain ⟨hz, hTI, ⟨a, c, hTO⟩, h1, h2⟩ := st
    obtain ⟨fp1, n1, P1, St1, D1, s1, g1, k1, l1, _, y1⟩ := S1.draw X hP hw hK i pins s σ H I h1 (.inl hg.1) X.A.in1 (I.ok.hd hc)
    obtain ⟨fp2, n2, P2, St2, D2, s2, g2, k2, l2, _, y2⟩ := S2.draw X hP hw hK i pins s σ H I h2 (.inl hg.2) X.A.in1 (I.ok.hd hc)
    subst hP hw hK
    obtain ⟨o1, e1, _, c1⟩ := S1.obj _ _ h1
    obtain ⟨o2, e2, _, c2⟩ := S2.obj _ _ h2
    have nl : ∀ {c : Addr} {o : Obj}, s.heap.get? c = some o → o.cls ≠ .type "list" → ¬ ∃ o, s.heap.get? c = some o ∧ o.cls = .type "list" := fun e n ⟨o', e', q⟩ => by rw [e] at e'; cases e'; exact n q
    have sep : ∀ {c i' : Addr} {fp : List Addr}, (∀ c ∈ fp, c = i' ∨ ∃ o, s.heap.get? c = some o ∧ o.cls = .type "list") → c ≠ i' → (¬ ∃ o, s.heap.get? c = some o ∧ o.cls = .type "list") → c ∉ fp := fun g n nl m => (g _ m).elim n nl
    have nz := nl hz (by show Value.type "zip" ≠ Value.type "list"; decide +kernel)
    have nO := nl hTO (by show Value.type "tuple" ≠ Value.type "list"; decide +kernel)
    refine pyNext_zipD D D1 D2 (l1 hg.1) (l2 hg.2) (sep g1 D.i1z.symm nz) (sep g2 D.i2z.symm nz) (sep g1 D.TOi1 nO) (sep g2 D.TOi2 nO) (sep g2 D.i12 (nl e1 c1)) (sep g1 D.i12.symm (nl e2 c2)) hz hTI hTO s1 s2 fun x y h' tk p1 p2 a1 a2 a3 a4 a5 a6 a7 => ?_
    obtain ⟨vx, rx, yx⟩ := y1 x p1
    obtain ⟨vy, ry, yy⟩ := y2 y p2
    refine ⟨_, rfl, wpAny_letOwnedTupleGo_zip (s := { s with heap := h', toks := tk }) a1 fun h2' hz' hs' => ?_⟩
    replace hs' : Heap.SameBut z h' h2' := hs'
    have hT0 : s.heap.objs.size ≠ z := Nat.ne_of_gt (Heap.lt_size hz)
    have kp : ∀ b o, b ∉ [z, TI, TO, i1, i2] → s.heap.get? b = some o → h2'.get? b = some o := fun b o hb e => by
      simp only [List.mem_cons, List.not_mem_nil, or_false, not_or] at hb
      exact hs'.extBut _ _ hb.1 (a7 b o hb.1 hb.2.2.1 hb.2.2.2.1 hb.2.2.2.2 e)
    have fr := I.hok.fresh (Nat.le_refl s.heap.objs.size)
    refine ⟨.ref s.heap.objs.size, upd H s.heap.objs.size (.tup [vx, vy]), I.turnedNew (ch := [z, TI, TO, i1, i2]) hf kp (Nat.le_refl _) (.cons rx (.cons ry .nil)) (by show 2 ≤ sizeLine; decide) ⟨_, hs'.extBut _ _ hT0 a5, rfl, _, rfl⟩, rfl, ⟨_, vx, vy, fr, rfl, yx, yy, rfl⟩,
      ⟨hz', hs'.extBut _ _ D.TIz (a7 _ _ D.TIz D.TITO D.TIi1 D.TIi2 hTI), ⟨_, _, hs'.extBut _ _ D.TOz a2⟩, S1.keep _ _ _ (k1 _ _ a3) fun o e => hs'.extBut _ _ D.i1z e, S2.keep _ _ _ (k2 _ _ a4) fun o e => hs'.extBut _ _ D.i2z e⟩, fun b hb => ?_⟩
    have nb : b ≠ s.heap.objs.size := by
      have lt : ∀ {c : Addr} {o : Obj}, s.heap.get? c = some o → c ≠ s.heap.objs.size := fun e => Nat.ne_of_lt (Heap.lt_size e)
      simp only [List.mem_cons, List.not_mem_nil, or_false] at hb
      rcases hb with rfl | rfl | rfl | rfl | rfl
      · exact lt hz
      · exact lt hTI
      · exact lt hTO
      · exact lt e1
      · exact lt e2
    rw [upd_ne nb]
    exact (hf b hb).1
  done := by
    intro X hP hw hK hc i pins s σ H E I hf st hg
    obtain ⟨hz, hTI, ⟨a, c, hTO⟩, h1, h2⟩ := st
    have w1 : J1.go i H ∨ J1.stop i H := hg.elim (fun q => .inr q.1) fun q => .inl q.1
    have w2 : J2.go i H ∨ J2.stop i H := hg.elim (fun q => q.2) fun q => .inr q.2
    obtain ⟨fp1, n1, P1, St1, D1, s1, g1, k1, l1, m1, y1⟩ := S1.draw X hP hw hK i pins s σ H I h1 w1 X.A.in1 (I.ok.hd hc)
    obtain ⟨fp2, n2, P2, St2, D2, s2, g2, k2, l2, m2, y2⟩ := S2.draw X hP hw hK i pins s σ H I h2 w2 X.A.in1 (I.ok.hd hc)
    subst hP hw hK
    obtain ⟨o1, e1, _, c1⟩ := S1.obj _ _ h1
    have nl : ∀ {c : Addr} {o : Obj}, s.heap.get? c = some o → o.cls ≠ .type "list" → ¬ ∃ o, s.heap.get? c = some o ∧ o.cls = .type "list" := fun e n ⟨o', e', q⟩ => by rw [e] at e'; cases e'; exact n q
    have sep : ∀ {c i' : Addr} {fp : List Addr}, (∀ c ∈ fp, c = i' ∨ ∃ o, s.heap.get? c = some o ∧ o.cls = .type "list") → c ≠ i' → (¬ ∃ o, s.heap.get? c = some o ∧ o.cls = .type "list") → c ∉ fp := fun g n nl m => (g _ m).elim n nl
    have nz := nl hz (by show Value.type "zip" ≠ Value.type "list"; decide +kernel)
    have nO := nl hTO (by show Value.type "tuple" ≠ Value.type "list"; decide +kernel)
    refine pyNext_zipD_end D D1 D2 (hg.elim (fun q => .inl (m1 q.1)) fun q => .inr ⟨l1 q.1, m2 q.2⟩) (sep g1 D.i1z.symm nz) (sep g2 D.i2z.symm nz) (sep g1 D.TOi1 nO) (sep g2 D.TOi2 nO) (sep g2 D.i12 (nl e1 c1)) hz hTI hTO s1 s2 fun h' tk a7 => ⟨rfl, ?_⟩
    refine I.turnedAll (ch := [z, TI, TO, i1, i2]) hf fun b o hb e => ?_
    simp only [List.mem_cons, List.not_mem_nil, or_false, not_or] at hb
    exact a7 b o hb.1 hb.2.2.1 hb.2.2.2.1 hb.2.2.2.2 e
  self := fun _ _ _ _ _ st h => wpAny_pyIter_zip st.1 h
/-! #### what is zipped: a list, a text -/
theorem Vals.get' : ∀ {xs : List V} {us : List Value} {i : Nat} {u : Value}, Vals xs us → us[i]? = some u → ∃ x, xs[i]? = some x ∧ RelV x u
  | _, _, _, _, .nil, e => by simp at e
  | _, _, 0, _, .cons r _, e => by simp at e; subst e; exact ⟨_, rfl, r⟩
  | _, _, i + 1, u, .cons _ t, e => by
    obtain ⟨x, h1, h2⟩ := Vals.get' (i := i) (u := u) t (by simpa using e)
    exact ⟨x, by simpa using h1, h2⟩
def Itle (K : PySem.W.Frag) (a : Addr) : It :=
  ⟨fun i H => ∃ xs x, SqL K H a xs ∧ xs[i]? = some x, fun i H x H' => H' = H ∧ ∀ xs, SqL K H a xs → xs[i]? = some x, fun i H => ∃ xs, SqL K H a xs ∧ xs.length = i⟩
def Itse (l : List Nat) : It := ⟨fun i _ => i < l.length, fun i H x H' => H' = H ∧ ∃ c, l[i]? = some c ∧ x = .str (tx [c]), fun i _ => l.length = i⟩
theorem src_list {P : Program} {w : World} {K : PySem.W.Frag} (a it : Addr) : Src P w K (Itle K a) it (fun i h => h.IsListIter it a i) where
  obj := fun i h st => by
    obtain ⟨o, e, c, d⟩ := st
    exact ⟨o, e, (fun v q => by rw [d] at q; cases q), (by rw [c]; decide +kernel)⟩
  keep := fun i h h' st k => st.at fun o e => k o e
  draw := by
    intro X hP hw hK i pins s σ H I st hg A hA
    subst hP hw hK
    have hx : ∃ xs, SqL X.K H a xs := hg.elim (fun ⟨xs, _, h, _⟩ => ⟨xs, h⟩) fun ⟨xs, h, _⟩ => ⟨xs, h⟩
    obtain ⟨xs, hS⟩ := hx
    obtain ⟨its, r, pl, hz⟩ := I.list hS
    have hl := r.length
    obtain ⟨oi, ei, ci, _⟩ := id st
    obtain ⟨oa, ea, ca, _⟩ := pl.isList
    have hne : a ≠ it := fun e => by
      subst e
      rw [ei] at ea
      cases ea
      rw [ci] at ca
      exact absurd ca (by decide +kernel)
    refine ⟨[it, a], its.toArray.size, _, _, Draws.list hA it a hne its.toArray, ⟨st, pl.isList⟩, fun c hc => ?_, fun j h q => q.1, fun ⟨ys, y, hy, e⟩ => ?_, fun ⟨ys, hy, e⟩ => ?_, fun u hu => ?_⟩
    · simp only [List.mem_cons, List.not_mem_nil, or_false] at hc
      rcases hc with rfl | rfl
      · exact .inl rfl
      · exact .inr ⟨oa, ea, ca⟩
    · rw [I.list_inj hy hS] at e
      have := (List.getElem?_eq_some_iff.mp e).1
      rw [List.size_toArray]
      omega
    · rw [I.list_inj hy hS] at e
      rw [List.size_toArray]
      omega
    · obtain ⟨x, hx, rx⟩ := r.get' (i := i) (u := u) (by simpa using hu)
      exact ⟨x, rx, rfl, fun ys hy => by rw [I.list_inj hy hS]; exact hx⟩
theorem src_str {P : Program} {w : World} {K : PySem.W.Frag} {T : String} (hT : T = "str_ascii_iterator" ∨ T = "str_iterator") (l : List Nat) (t : Tok) (it : Addr) : Src P w K (Itse l) it (fun i h => h.IsStrIter it T (tx l) t i) where
  obj := fun i h st => by
    obtain ⟨o, e, c, d⟩ := st
    refine ⟨o, e, (fun v q => by rw [d] at q; cases q), ?_⟩
    rw [c]
    rcases hT with rfl | rfl <;> decide +kernel
  keep := fun i h h' st k => by
    obtain ⟨o, e, r⟩ := st
    exact ⟨o, k o e, r⟩
  draw := by
    intro X hP hw hK i pins s σ H I st hg A hA
    subst hP hw hK
    have hsz : (tx l).cps.size = l.length := tx_len l
    have fin : ∀ u, (∃ c t', (tx l).cps[i]? = some c ∧ u = Value.str ⟨#[c]⟩ t') → ∃ x, RelV x u ∧ (Itse l).yld i H x H := fun u ⟨c, t', hc, e⟩ => by
      subst e
      rw [← Array.getElem?_toList, tx_cps] at hc
      exact ⟨.str (tx [c]), ⟨t', rfl⟩, rfl, c, hc, rfl⟩
    rcases hT with rfl | rfl
    · exact ⟨[it], (tx l).cps.size, _, _, Draws.strAscii hA it (tx l) t, st, fun c hc => .inl (by simpa using hc), fun j h q => q, fun q => by rw [hsz]; exact q, fun q => by rw [hsz]; exact q.symm, fin⟩
    · exact ⟨[it], (tx l).cps.size, _, _, Draws.strWide hA it (tx l) t, st, fun c hc => .inl (by simpa using hc), fun j h q => q, fun q => by rw [hsz]; exact q, fun q => by rw [hsz]; exact q.symm, fin⟩
/-! #### zip(a, b) made -/
theorem newClass_zip (v1 v2 : Value) : Builtin.SmallTypes.newClass "zip" ⟨[.type "zip", v1, v2], []⟩ = pure (.type "zip", [v1, v2]) := by
  unfold Builtin.SmallTypes.newClass
  have h1 : isType (.type "zip") = pure true := rfl
  simp only [h1, sub_zip, pure_bind, Bool.not_true, Bool.false_eq_true, if_false]
abbrev zs1 (h : Heap) (o1 : Obj) : Heap := h.push o1
abbrev zs2 (h : Heap) (o1 o : Obj) : Heap := (zs1 h o1).push o
abbrev zs3 (h : Heap) (o1 o : Obj) : Heap := (zs2 h o1 o).push { cls := .type "tuple", data := .seq #[.ref h.objs.size, .ref (zs1 h o1).objs.size] }
abbrev zs4 (h : Heap) (o1 o : Obj) : Heap := (zs3 h o1 o).push { cls := .type "tuple", data := .seq #[.none, .none] }
abbrev zs5 (h : Heap) (o1 o : Obj) : Heap := (zs4 h o1 o).push { cls := .type "zip", data := .fields #[.none, .bool false, .bool false, .ref (zs2 h o1 o).objs.size, .ref (zs3 h o1 o).objs.size] }
/-- zip(v1, v2), by what iter makes of each -/
theorem meets_zip (v1 v2 : Value) (o1 o2 : Obj) (S : Shared → Prop)
    (i1 : ∀ (prog : Program) (w : World) (A : Around) (E : Value → Shared → Prop) (s : Shared) (Q : Value → Shared → Prop), S s → Q (.ref s.heap.objs.size) { s with heap := s.heap.push o1 } → wpAny (model prog w) A (pyIter v1) Q E s)
    (i2 : ∀ (prog : Program) (w : World) (A : Around) (E : Value → Shared → Prop) (s : Shared) (Q : Value → Shared → Prop), S s → Q (.ref (s.heap.push o1).objs.size) { s with heap := (s.heap.push o1).push o2 } → wpAny (model prog w) A (pyIter v2) Q E { s with heap := s.heap.push o1 }) :
    Meets (Builtin.«zip.__new__» ⟨[.type "zip", v1, v2], []⟩) (fun _ R s => S s ∧ R (.ok (.ret (.ref (zs4 s.heap o1 o2).objs.size))) { s with heap := zs5 s.heap o1 o2 }) :=
  .of_wp fun prog w A R s h => by
    obtain ⟨hS, h⟩ := h
    show wpAny _ _ (Builtin.SmallTypes.newClass "zip" ⟨[.type "zip", v1, v2], []⟩ >>= _) _ _ s
    refine wpAny_bind (wpAny_of_eq (newClass_zip v1 v2) ?_)
    show wpAny _ _ (Builtin.SmallTypes.iterAll [v1, v2] >>= _) _ _ s
    refine wpAny_bind ?_
    unfold Builtin.SmallTypes.iterAll
    simp only [List.forIn_cons, List.forIn_nil]
    refine wpAny_bind (wpAny_bind (wpAny_bind (wpAny_holding (i1 _ _ _ _ s _ hS (wpAny_pure ?_)))))
    refine wpAny_bind (wpAny_bind (wpAny_holding (i2 _ _ _ _ s _ hS (wpAny_pure (wpAny_pure (wpAny_pure ?_))))))
    show wpAny _ _ (newTuple [.ref s.heap.objs.size, .ref (s.heap.push o1).objs.size] >>= _) _ _ _
    refine wpAny_bind (wpAny_newTuple (wpAny_bind (wpAny_newTuple (wpAny_bind ?_) (by show 2 ≤ sizeLine; decide))) (by show 2 ≤ sizeLine; decide))
    show wpAny _ _ (newObj (.type "zip") (.fields #[.none, .bool false, .bool false, .ref (zs2 s.heap o1 o2).objs.size, .ref (zs3 s.heap o1 o2).objs.size])) _ _ _
    refine wpAny_newObj_type ?_ ?_
    · exact wpAny_pure ⟨_, rfl, h⟩
    · size_fits
/-- zip(a, b) has been made in five new places behind h -/
structure ZipNew (h h' : Heap) : Prop where
  rec_ : IsZip h' (h.objs.size + 4) (h.objs.size + 2) (h.objs.size + 3) .none
  its : IsPair h' (h.objs.size + 2) (.ref h.objs.size) (.ref (h.objs.size + 1))
  pair : IsPair h' (h.objs.size + 3) .none .none
  old : ∀ c o, h.get? c = some o → h'.get? c = some o
section
variable {prog : Program} {w : World} {A : Around} {E : Value → Shared → Prop} {s : Shared}
theorem call_zipG {v1 v2 : Value} {o1 o2 : Obj} {S : Shared → Prop} {Q : Value → Shared → Prop} (f1 : o1.isFreed = false) (f2 : o2.isFreed = false)
    (i1 : ∀ (prog : Program) (w : World) (A : Around) (E : Value → Shared → Prop) (s : Shared) (Q : Value → Shared → Prop), S s → Q (.ref s.heap.objs.size) { s with heap := s.heap.push o1 } → wpAny (model prog w) A (pyIter v1) Q E s)
    (i2 : ∀ (prog : Program) (w : World) (A : Around) (E : Value → Shared → Prop) (s : Shared) (Q : Value → Shared → Prop), S s → Q (.ref (s.heap.push o1).objs.size) { s with heap := (s.heap.push o1).push o2 } → wpAny (model prog w) A (pyIter v2) Q E { s with heap := s.heap.push o1 }) (hS : S s)
    (fin : ∀ h', ZipNew s.heap h' → h'.get? s.heap.objs.size = some o1 → h'.get? (s.heap.objs.size + 1) = some o2 → Q (.ref (s.heap.objs.size + 4)) { s with heap := h' }) :
    wpAny (model prog w) A (call (.type "zip") [v1, v2]) Q E s := by
  refine callType_new F.called_zip (by decide) (F.typeCall_zip_2 _ _) (F.newCall_zip_2 _ _) (fun obj => F.args_object_init_3 obj _ _) F.entry_zip_new (meets_zip v1 v2 o1 o2 S i1 i2) ⟨hS, ?_⟩
  have z1 : (zs1 s.heap o1).objs.size = s.heap.objs.size + 1 := Heap.size_push ..
  have z2 : (zs2 s.heap o1 o2).objs.size = s.heap.objs.size + 2 := by rw [Heap.size_push, z1]
  have z3 : (zs3 s.heap o1 o2).objs.size = s.heap.objs.size + 3 := by rw [Heap.size_push, z2]
  have z4 : (zs4 s.heap o1 o2).objs.size = s.heap.objs.size + 4 := by rw [Heap.size_push, z3]
  have g5 : (zs5 s.heap o1 o2).get? (zs4 s.heap o1 o2).objs.size = some _ := Heap.get?_push_size _ rfl
  have g4 : (zs5 s.heap o1 o2).get? (zs3 s.heap o1 o2).objs.size = some _ := Heap.get?_push_of_some _ (Heap.get?_push_size _ rfl)
  have g3 : (zs5 s.heap o1 o2).get? (zs2 s.heap o1 o2).objs.size = some _ := Heap.get?_push_of_some _ (Heap.get?_push_of_some _ (Heap.get?_push_size _ rfl))
  have g2 : (zs5 s.heap o1 o2).get? (zs1 s.heap o1).objs.size = some o2 := Heap.get?_push_of_some _ (Heap.get?_push_of_some _ (Heap.get?_push_of_some _ (Heap.get?_push_size _ f2)))
  have g1 : (zs5 s.heap o1 o2).get? s.heap.objs.size = some o1 := Heap.get?_push_of_some _ (Heap.get?_push_of_some _ (Heap.get?_push_of_some _ (Heap.get?_push_of_some _ (Heap.get?_push_size _ f1))))
  show _ ∧ _
  rw [z2, z3, z4] at g5
  rw [z1, z2] at g3
  rw [z3] at g4
  rw [z1] at g2
  rw [z4]
  have late : ∀ c o, s.heap.get? c = some o → (zs5 s.heap o1 o2).get? c = some o := by
    intro c o q
    iterate 5 apply Heap.get?_push_of_some
    exact q
  exact ⟨⟨_, g5, rfl⟩, fin _ ⟨g5, g3, g4, late⟩ g1 g2⟩
abbrev zo (T : String) (x : Str) (t : Tok) : Obj := { cls := .type T, data := .fields #[.str x t, .int 0 0] }
abbrev zl (l : Addr) : Obj := { cls := .type "list_iterator", data := .fields #[.ref l, .int 0 0] }
theorem call_zip_ls {l1 : Addr} {xs : Array Value} {x : Str} {t : Tok} {Q : Value → Shared → Prop} (hl1 : s.heap.IsList l1 xs)
    (fin : ∀ h' T, (T = "str_ascii_iterator" ∨ T = "str_iterator") → ZipNew s.heap h' → h'.IsListIter s.heap.objs.size l1 0 → h'.IsStrIter (s.heap.objs.size + 1) T x t 0 → Q (.ref (s.heap.objs.size + 4)) { s with heap := h' }) :
    wpAny (model prog w) A (call (.type "zip") [.ref l1, .str x t]) Q E s := by
  cases ha : x.cps.all (· < 128) with
  | true => exact call_zipG (o1 := zl l1) (o2 := zo "str_ascii_iterator" x t) (S := fun s => s.heap.IsList l1 xs) rfl rfl (fun _ _ _ _ s' _ hS q => wpAny_pyIter_list hS q) (fun _ _ _ _ s' _ _ q => wpAny_pyIter_ascii ha q) hl1 fun h' nw a4 a5 => fin h' _ (.inl rfl) nw ⟨_, a4, rfl, rfl⟩ ⟨_, a5, rfl, rfl⟩
  | false => exact call_zipG (o1 := zl l1) (o2 := zo "str_iterator" x t) (S := fun s => s.heap.IsList l1 xs) rfl rfl (fun _ _ _ _ s' _ hS q => wpAny_pyIter_list hS q) (fun _ _ _ _ s' _ _ q => wpAny_pyIter_wide ha q) hl1 fun h' nw a4 a5 => fin h' _ (.inr rfl) nw ⟨_, a4, rfl, rfl⟩ ⟨_, a5, rfl, rfl⟩
end
section
variable {X : Cx} {elts : List Expr} {x1 : Nat} {tpos : Pos}
theorem ne2 (n a b : Nat) (h : a ≠ b) : n + a ≠ n + b := by omega
theorem za_of (n : Nat) : ZA (n + 4) (n + 2) (n + 3) n (n + 1) :=
  ⟨ne2 n 2 4 (by decide), ne2 n 3 4 (by decide), ne2 n 0 4 (by decide), ne2 n 1 4 (by decide), ne2 n 2 3 (by decide), ne2 n 2 0 (by decide), ne2 n 2 1 (by decide), ne2 n 3 0 (by decide), ne2 n 3 1 (by decide), ne2 n 0 1 (by decide)⟩
def iZipLS (K : PySem.W.Frag) (ta : TA) : TI := fun σ H R => ta σ H fun vs H1 => ∃ (p : Addr) (l : List Nat), vs = [.ref p, .str (tx l)] ∧ (∃ xs, SqL K H1 p xs) ∧ R (Itz (Itle K p) (Itse l)) H1
theorem pi_zipLS {a b : Expr} {ta : TA} {p pos : Pos} (hg : Gl X "zip") (hm : X.mg "zip" = none) (ha : PA X [a, b] ta) (hs : starEach [a, b] X.env = [(false, eval a X.env), (false, eval b X.env)] := by rfl) (hs2 : starEach [b] X.env = [(false, eval b X.env)] := by rfl) :
    PI X (.Tuple elts x1 tpos) (.Call (.Name "zip" p) [a, b] [] pos) (iZipLS X.K ta) := by
  intro pins s σ H R I h
  refine Call_ (ld_blt I hg hm boot_zip (PyProof.Rows.callWith_type1 (thn (ha pos pins s σ H _ I h) fun us s1 ⟨vs, H1, I1, r1, q1⟩ => ?_) (by rw [hs, hs2]) (by rw [hs2]; rfl)))
  obtain ⟨q, l, rfl, ⟨xs, hS⟩, k⟩ := q1
  obtain ⟨u1, u2, rfl, e1, ⟨t, rfl⟩⟩ := vals2 r1
  cases e1
  obtain ⟨its, r, pl, _⟩ := I1.list hS
  refine call_zip_ls pl.isList fun h' T hT nw h1 h2 => ?_
  obtain ⟨hz, hTI, hTO, kp⟩ := nw
  have I2 : Inv X pins σ H1 { s1 with heap := h' } := I1.kept (t' := s1.toks) kp
  have fr : ∀ c, s1.heap.objs.size ≤ c → H1 c = none := fun c hc => I1.hok.fresh hc
  refine wpAny_pyIter_zip hz ⟨s1.heap.objs.size + 4, [s1.heap.objs.size + 4, s1.heap.objs.size + 2, s1.heap.objs.size + 3, s1.heap.objs.size, s1.heap.objs.size + 1], _, _, H1, rfl, I2, turn_zip (za_of _) (src_list q _) (src_str hT l t _), ⟨hz, hTI, ⟨_, _, hTO⟩, h1, h2⟩, fun b hb => ?_, k⟩
  have hb' : s1.heap.objs.size ≤ b := by
    simp only [List.mem_cons, List.not_mem_nil, or_false] at hb
    rcases hb with rfl | rfl | rfl | rfl | rfl
    · exact Nat.le_add_right _ 4
    · exact Nat.le_add_right _ 2
    · exact Nat.le_add_right _ 3
    · exact Nat.le_refl _
    · exact Nat.le_add_right _ 1
  exact I1.fpOk hb' (fr b hb')
end
/-- over zip of a list and a text, the list stays -/
theorem for_zipLS {K : PySem.W.Frag} {a : Addr} {xs : List V} {l : List Nat} {g : TG} {tb : TS} {D : Ends} {σ : St} {H : Hp} (Pv : Nat → St → Hp → Prop) (h0 : Pv 0 σ H) (hl : ∀ i σ H, Pv i σ H → SqL K H a xs)
    (hs : ∀ i x c σ H T, xs[i]? = some x → l[i]? = some c → H T = none → Pv i σ H → g (.ref T) σ (upd H T (.tup [x, .str (tx [c])])) fun σ2 H2 => tb { D with nx := Pv (i + 1), ct := Pv (i + 1), bk := D.nx } σ2 H2) (hd : ∀ σ H, Pv (min xs.length l.length) σ H → D.nx σ H) :
    ∃ W : Nat → Nat → St → Hp → Prop, (∃ m, W 0 m σ H) ∧ ∀ i m σ H, W i m σ H →
      ((Itz (Itle K a) (Itse l)).stop i H ∧ D.nx σ H) ∨ ((Itz (Itle K a) (Itse l)).go i H ∧ ∃ N : St → Hp → Prop, (∀ σ' H', N σ' H' → ∃ m', m' < m ∧ W (i + 1) m' σ' H') ∧ ∀ x H', (Itz (Itle K a) (Itse l)).yld i H x H' → g x σ H' fun σ2 H2 => tb { D with nx := N, ct := N, bk := D.nx } σ2 H2) := by
  refine ⟨fun i m σ H => m = min xs.length l.length - i ∧ i ≤ min xs.length l.length ∧ Pv i σ H, ⟨_, rfl, Nat.zero_le _, h0⟩, ?_⟩
  rintro i m σ H ⟨rfl, hi, p⟩
  have q := hl i σ H p
  by_cases hlt : i < min xs.length l.length
  · refine .inr ⟨⟨⟨xs, xs[i], q, List.getElem?_eq_getElem (by omega)⟩, (by show i < l.length; omega)⟩, Pv (i + 1), fun σ' H' p' => ⟨_, by omega, rfl, hlt, p'⟩, fun v H' y => ?_⟩
    obtain ⟨T, x, y, hT, rfl, ⟨_, hx⟩, ⟨_, c, hc, rfl⟩, rfl⟩ := y
    exact hs i x c σ H T (hx xs q) hc hT p
  · have e : i = min xs.length l.length := by omega
    refine .inl ⟨?_, hd σ H (e ▸ p)⟩
    by_cases h1 : xs.length ≤ l.length
    · refine .inl ⟨⟨xs, q, by omega⟩, ?_⟩
      by_cases h2 : i < l.length
      · exact .inl h2
      · exact .inr (by show l.length = i; omega)
    · exact .inr ⟨⟨xs, xs[i]'(by omega), q, List.getElem?_eq_getElem (by omega)⟩, (by show l.length = i; omega)⟩
end L2
/-! ### count, split, endswith of one sign -/
namespace L2
open PySem PySem.Spec PyProof.Rows
def posOf (c : Nat) : Nat → List Nat → List Nat
  | _, [] => []
  | k, x :: r => if x = c then k :: posOf c (k + 1) r else posOf c (k + 1) r
theorem occ_run (L : List Nat) (c limit : Nat) : ∀ (n k : Nat) (st : Array Nat × Nat), k + n ≤ limit → st.2 ≤ k → st.1.size ≤ k →
    (forIn (List.range' k n) st (StrLaws.occBody (tx L) ⟨#[c]⟩ L.length limit)).run.fst.toList = st.1.toList ++ (List.range' k n).filter fun i => decide (L[i]? = some c)
  | 0, k, st, _, _, _ => by simp
  | n + 1, k, st, h1, h2, h3 => by
    rw [List.range'_succ, List.forIn_cons]
    have key := StrLaws.subAt_one (tx L) c k
    rw [tx_cps, tx_len] at key
    unfold StrLaws.occBody
    by_cases hk : L[k]? = some c
    · obtain ⟨g1, g2⟩ := key.mpr hk
      rw [if_pos ⟨⟨⟨by omega, h2⟩, g1⟩, g2⟩]
      have ih := occ_run L c limit n (k + 1) (st.1.push k, k + (⟨#[c]⟩ : Str).length) (by omega) (by show k + 1 ≤ k + 1; omega) (by rw [Array.size_push]; omega)
      unfold StrLaws.occBody at ih
      refine Eq.trans ih ?_
      rw [List.filter_cons_of_pos (by simpa using hk), Array.toList_push, List.append_assoc]
      rfl
    · rw [if_neg (fun z => hk (key.mp ⟨z.1.2, z.2⟩))]
      have ih := occ_run L c limit n (k + 1) st (by omega) (by omega) (by omega)
      unfold StrLaws.occBody at ih
      refine Eq.trans ih ?_
      rw [List.filter_cons_of_neg (by simpa using hk)]
theorem filter_pos (L : List Nat) (c : Nat) : ∀ (n k : Nat), k + n = L.length → ((List.range' k (n + 1)).filter fun i => decide (L[i]? = some c)) = posOf c k (L.drop k)
  | 0, k, h => by
    have e : L.drop k = [] := List.drop_of_length_le (by omega)
    rw [e]
    have : L[k]? = none := List.getElem?_eq_none (by omega)
    simp [posOf, this]
  | n + 1, k, h => by
    have hk : k < L.length := by omega
    rw [List.range'_succ, List.drop_eq_getElem_cons hk]
    have ih := filter_pos L c n (k + 1) (by omega)
    unfold posOf
    by_cases e : L[k] = c
    · rw [if_pos e, List.filter_cons_of_pos (by simp [List.getElem?_eq_getElem hk, e]), ih]
    · rw [if_neg e, List.filter_cons_of_neg (by simp [List.getElem?_eq_getElem hk, e]), ih]
theorem occ_one (L : List Nat) (c : Nat) : Builtin.Str.occurrences (tx L) (tx [c]) 0 (tx L).length ((tx L).length + 1) = posOf c 0 L := by
  have e2 : tx [c] = ⟨#[c]⟩ := rfl
  rw [e2, tx_len, StrLaws.occ_eq]
  have := occ_run L c (L.length + 1) (L.length + 1) 0 (#[], 0) (by omega) (Nat.le_refl _) (Nat.le_refl _)
  rw [Nat.sub_zero]
  rw [this, filter_pos L c L.length 0 (by omega)]
  rfl
theorem posOf_len (c : Nat) : ∀ (l : List Nat) (k : Nat), (posOf c k l).length = l.count c
  | [], k => rfl
  | x :: r, k => by
    unfold posOf
    by_cases e : x = c
    · rw [if_pos e, e, List.count_cons_self, List.length_cons, posOf_len c r]
    · rw [if_neg e, posOf_len c r, List.count_cons_of_ne e]
section
variable {X : Cx}
theorem mt_count : MtR X "str.count" (fun x vs H Q => ∃ (l : List Nat) (c : Nat), x = .str (tx l) ∧ vs = [.str (tx [c])] ∧ Q (.int (l.count c : Nat)) H) := by
  intro pins s σ H x vs v us Q I rx rv h
  obtain ⟨l, c, rfl, rfl, q⟩ := h
  obtain ⟨t, rfl⟩ := rx
  obtain ⟨u, rfl, t', rfl⟩ := vals1 rv
  refine call_gives F.slot_str_count (typeIs_str _ _ _) F.entry_str_count (F.args_str_count_2 _ _) (gives_str_count _ _ _ _) ?_
  have e : ((Builtin.Str.occurrences (tx l) (tx [c]) 0 (tx l).length ((tx l).length + 1)).length : Int) = ((l.count c : Nat) : Int) := by rw [occ_one, posOf_len]
  exact ⟨.int (l.count c : Nat), H, I.tok _, ⟨_, by rw [e]⟩, q⟩
theorem mt_endswith : MtR X "str.endswith" (fun x vs H Q => ∃ (l : List Nat) (c : Nat), x = .str (tx l) ∧ vs = [.str (tx [c])] ∧ Q (.bl (decide (l.getLast? = some c))) H) := by
  intro pins s σ H x vs v us Q I rx rv h
  obtain ⟨l, c, rfl, rfl, q⟩ := h
  obtain ⟨t, rfl⟩ := rx
  obtain ⟨u, rfl, t', rfl⟩ := vals1 rv
  refine call_gives F.slot_str_endswith (typeIs_str _ _ _) F.entry_str_endswith (F.args_str_endswith_2 _ _) (gives_str_endswith _ _ _ _) ?_
  refine ⟨.bl (decide (l.getLast? = some c)), H, I, ?_, q⟩
  show Value.bool _ = Value.bool _
  congr 1
  have e1 : (tx [c]).length = 1 := by rw [tx_len]; rfl
  rw [e1, tx_len, Nat.zero_add]
  have key := StrLaws.subAt_one (tx l) c (l.length - 1)
  rw [tx_cps, tx_len] at key
  have e2 : tx [c] = ⟨#[c]⟩ := rfl
  rw [e2]
  rw [List.getLast?_eq_getElem?]
  by_cases hl : 1 ≤ l.length
  · rw [decide_eq_true hl, Bool.true_and]
    by_cases hc : l[l.length - 1]? = some c
    · rw [decide_eq_true hc]
      exact (key.mpr hc).2
    · rw [decide_eq_false hc]
      refine Bool.eq_false_iff.mpr fun z => hc (key.mp ⟨?_, z⟩)
      show l.length - 1 + 1 ≤ l.length
      omega
  · rw [decide_eq_false hl, Bool.false_and]
    symm
    refine decide_eq_false fun z => ?_
    have := (List.getElem?_eq_some_iff.mp z).1
    omega
end
end L2
namespace Tb
/-- the last told stop, 0 where none is told -/
def lastOf (ts : List Int) : Int := ts.getLastD 0
/-- the told stops rise from 1 or more -/
def Rise : Int → List Int → Prop
  | _, [] => True
  | a, t :: r => a < t ∧ Rise t r
/-- the first told stop that is greater than c -/
def firstGt (c : Int) : List Int → Int
  | [] => 0
  | t :: r => if c < t then t else firstGt c r
def nextStop (ts : List Int) (st c : Int) : Int := if c < lastOf ts then firstGt c ts else lastOf ts + ((c - lastOf ts) / st + 1) * st
def isStop (ts : List Int) (st c : Int) : Bool := if c ≤ lastOf ts then decide (c ∈ ts) else decide ((c - lastOf ts) % st = 0)

theorem lastOf_nil : lastOf [] = 0 := rfl
theorem lastOf_snoc (ts : List Int) (t : Int) : lastOf (ts ++ [t]) = t := by simp [lastOf]
theorem lastOf_cons (t : Int) (r : List Int) : lastOf (t :: r) = if r = [] then t else lastOf r := by
  cases r with
  | nil => rfl
  | cons a r => simp [lastOf, List.getLastD]
theorem Rise.mem : ∀ {a : Int} {ts : List Int}, Rise a ts → ∀ t ∈ ts, a < t
  | _, [], _, t, h => by cases h
  | a, x :: r, h, t, m => by
    rcases List.mem_cons.mp m with e | m
    · subst e; exact h.1
    · have := Rise.mem h.2 t m
      have := h.1
      omega
theorem Rise.le_last : ∀ {a : Int} {ts : List Int}, Rise a ts → ∀ t ∈ ts, t ≤ lastOf ts
  | _, [], _, t, h => by cases h
  | a, x :: r, h, t, m => by
    rw [lastOf_cons]
    split
    · rename_i e; subst e; simp at m; omega
    · rename_i e
      rcases List.mem_cons.mp m with q | m
      · subst q
        cases r with
        | nil => exact absurd rfl e
        | cons b r' =>
          have h1 := Rise.le_last h.2 b (by simp)
          have h2 := h.2.1
          omega
      · exact Rise.le_last h.2 t m
theorem last_mem : ∀ {ts : List Int}, ts ≠ [] → lastOf ts ∈ ts
  | [], h => absurd rfl h
  | x :: r, _ => by
    rw [lastOf_cons]
    split
    · simp
    · rename_i e; exact List.mem_cons_of_mem _ (last_mem e)
theorem Rise.snoc : ∀ {a : Int} {ts : List Int} {t : Int}, Rise a ts → (ts = [] → a < t) → (ts ≠ [] → lastOf ts < t) → Rise a (ts ++ [t])
  | a, [], t, _, h, _ => ⟨h rfl, trivial⟩
  | a, x :: r, t, hr, _, h => by
    refine ⟨hr.1, Rise.snoc hr.2 (fun e => ?_) fun e => ?_⟩
    · subst e; exact h (by simp)
    · have := h (by simp)
      rw [lastOf_cons, if_neg e] at this
      exact this
theorem Rise.snoc0 {ts : List Int} {t : Int} (h : Rise 0 ts) (ht : lastOf ts < t) : Rise 0 (ts ++ [t]) :=
  h.snoc (fun e => by subst e; exact ht) fun _ => ht
theorem Rise.last_nn {ts : List Int} (h : Rise 0 ts) : 0 ≤ lastOf ts := by
  cases ts with
  | nil => exact Int.le_refl _
  | cons x r =>
    have := h.mem _ (last_mem (ts := x :: r) (by simp))
    omega
/-- the first greater one, by what is true of it -/
theorem firstGt_spec : ∀ {a c : Int} {ts : List Int}, Rise a ts → c < lastOf ts → ts ≠ [] → firstGt c ts ∈ ts ∧ c < firstGt c ts ∧ ∀ t ∈ ts, c < t → firstGt c ts ≤ t
  | _, _, [], _, _, h => absurd rfl h
  | a, c, x :: r, hr, hc, _ => by
    unfold firstGt
    by_cases hx : c < x
    · rw [if_pos hx]
      refine ⟨by simp, hx, fun t m _ => ?_⟩
      rcases List.mem_cons.mp m with q | m
      · omega
      · have := Rise.mem hr.2 t m; omega
    · rw [if_neg hx]
      have hne : r ≠ [] := fun e => by subst e; exact hx hc
      have hc' : c < lastOf r := by rw [lastOf_cons, if_neg hne] at hc; exact hc
      obtain ⟨h1, h2, h3⟩ := firstGt_spec hr.2 hc' hne
      refine ⟨List.mem_cons_of_mem _ h1, h2, fun t m ht => ?_⟩
      rcases List.mem_cons.mp m with q | m
      · subst q; exact absurd ht hx
      · exact h3 t m ht
theorem firstGt_uniq {c v : Int} {ts : List Int} (hr : Rise 0 ts) (h1 : v ∈ ts) (h2 : c < v) (h3 : ∀ t ∈ ts, c < t → v ≤ t) : firstGt c ts = v := by
  have hne : ts ≠ [] := fun e => by subst e; cases h1
  have hc : c < lastOf ts := by have := hr.le_last v h1; omega
  obtain ⟨g1, g2, g3⟩ := firstGt_spec hr hc hne
  have := g3 v h1 h2
  have := h3 _ g1 g2
  omega
/-- what the halving finds -/
theorem Rise.get_lt : ∀ {a : Int} {ts : List Int} {i j : Nat} {x y : Int}, Rise a ts → i < j → ts[i]? = some x → ts[j]? = some y → x < y
  | _, [], _, _, _, _, _, _, h, _ => by simp at h
  | a, t :: r, 0, j + 1, x, y, hr, _, hx, hy => by
    simp at hx hy
    subst hx
    exact Rise.mem hr.2 y (List.mem_of_getElem? hy)
  | a, t :: r, i + 1, j + 1, x, y, hr, hij, hx, hy => by
    simp at hx hy
    exact Rise.get_lt hr.2 (by omega) hx hy
theorem firstGt_at {ts : List Int} {c v : Int} {k : Nat} (hr : Rise 0 ts) (hk : ts[k]? = some v) (h1 : c < v) (h2 : ∀ (j : Nat) x, j < k → ts[j]? = some x → x ≤ c) : firstGt c ts = v := by
  refine firstGt_uniq hr (List.mem_of_getElem? hk) h1 fun t m ht => ?_
  obtain ⟨j, hj⟩ := List.getElem?_of_mem m
  rcases Nat.lt_trichotomy j k with q | q | q
  · have := h2 j t q hj; omega
  · subst q; rw [hk] at hj; cases hj; omega
  · have := hr.get_lt q hk hj; omega

/-! ### the next stop -/
theorem mul_pos' {a b : Int} (ha : 0 < a) (hb : 0 < b) : 0 < a * b := Int.mul_pos ha hb
theorem beyond {l c st : Int} (hs : 0 < st) (hc : l ≤ c) : c < l + ((c - l) / st + 1) * st ∧ l + ((c - l) / st + 1) * st ≤ c + st := by
  have h1 := Int.mul_ediv_add_emod (c - l) st
  have h2 := Int.emod_nonneg (c - l) (by omega : st ≠ 0)
  have h3 := Int.emod_lt_of_pos (c - l) hs
  have h4 : ((c - l) / st + 1) * st = st * ((c - l) / st) + st := by rw [Int.add_mul, Int.one_mul, Int.mul_comm]
  rw [h4]
  omega
/-- the next stop of a column, 0 or more, is greater -/
theorem nextStop_gt {ts : List Int} {st c : Int} (hr : Rise 0 ts) (hs : 0 < st) (hc : 0 ≤ c) : c < nextStop ts st c := by
  unfold nextStop
  split
  · rename_i h
    cases ts with
    | nil => rw [lastOf_nil] at h; omega
    | cons a r => exact (firstGt_spec hr h (by simp)).2.1
  · exact (beyond hs (by omega)).1
/-- it is told, or it lies behind the last told one, some steps -/
theorem nextStop_isStop {ts : List Int} {st c : Int} (hr : Rise 0 ts) (hs : 0 < st) (hc : 0 ≤ c) : isStop ts st (nextStop ts st c) = true := by
  unfold nextStop
  by_cases h : c < lastOf ts
  · rw [if_pos h]
    have hne : ts ≠ [] := fun e => by subst e; rw [lastOf_nil] at h; omega
    have h1 := (firstGt_spec hr h hne).1
    unfold isStop
    rw [if_pos (hr.le_last _ h1)]
    exact decide_eq_true h1
  · rw [if_neg h]
    have h1 := beyond (l := lastOf ts) hs (by omega : lastOf ts ≤ c)
    unfold isStop
    rw [if_neg (by omega)]
    have e : lastOf ts + ((c - lastOf ts) / st + 1) * st - lastOf ts = ((c - lastOf ts) / st + 1) * st := by omega
    rw [e, Int.mul_emod_left]
    rfl
theorem nextStop_none {ts : List Int} {st c : Int} (hr : Rise 0 ts) (hs : 0 < st) (hc : 0 ≤ c) : ∀ t ∈ ts, ¬ (c < t ∧ t < nextStop ts st c) := by
  intro t ht ⟨h1, h2⟩
  have hne : ts ≠ [] := fun e => by subst e; cases ht
  have h3 := hr.le_last t ht
  unfold nextStop at h2
  rw [if_pos (by omega)] at h2
  have := (firstGt_spec hr (by omega : c < lastOf ts) hne).2.2 t ht h1
  omega
theorem nextStop_near {ts : List Int} {st c : Int} (hr : Rise 0 ts) (hs : 0 < st) (hc : 0 ≤ c) : nextStop ts st c ≤ lastOf ts ∨ nextStop ts st c - st ≤ (if c > lastOf ts then c else lastOf ts) := by
  unfold nextStop
  by_cases h : c < lastOf ts
  · rw [if_pos h]
    have hne : ts ≠ [] := fun e => by subst e; rw [lastOf_nil] at h; omega
    exact .inl (hr.le_last _ (firstGt_spec hr h hne).1)
  · rw [if_neg h]
    have h1 := beyond (l := lastOf ts) hs (by omega : lastOf ts ≤ c)
    right
    split <;> omega
/-- a column is a stop just where it is the next stop of the one ahead -/
theorem isStop_iff {ts : List Int} {st c : Int} (hr : Rise 0 ts) (hs : 0 < st) (hc : 0 < c) : isStop ts st c = decide (nextStop ts st (c - 1) = c) := by
  by_cases h : c ≤ lastOf ts
  · have hl : c - 1 < lastOf ts := by omega
    have hne : ts ≠ [] := fun e => by subst e; rw [lastOf_nil] at h; omega
    unfold isStop nextStop
    rw [if_pos h, if_pos hl]
    obtain ⟨g1, g2, g3⟩ := firstGt_spec hr hl hne
    by_cases m : c ∈ ts
    · have := g3 c m (by omega)
      rw [decide_eq_true m, decide_eq_true (by omega : firstGt (c - 1) ts = c)]
    · rw [decide_eq_false m, decide_eq_false]
      intro e
      rw [e] at g1
      exact m g1
  · have hl : ¬ c - 1 < lastOf ts := by omega
    unfold isStop nextStop
    rw [if_neg h, if_neg hl]
    have e1 := Int.mul_ediv_add_emod (c - lastOf ts) st
    have e2 := Int.mul_ediv_add_emod (c - 1 - lastOf ts) st
    have h2 := Int.emod_nonneg (c - lastOf ts) (by omega : st ≠ 0)
    have h3 := Int.emod_lt_of_pos (c - lastOf ts) hs
    have h5 := Int.emod_nonneg (c - 1 - lastOf ts) (by omega : st ≠ 0)
    have h6 := Int.emod_lt_of_pos (c - 1 - lastOf ts) hs
    have h4 : ((c - 1 - lastOf ts) / st + 1) * st = st * ((c - 1 - lastOf ts) / st) + st := by rw [Int.add_mul, Int.one_mul, Int.mul_comm]
    rw [h4]
    by_cases hm : (c - lastOf ts) % st = 0
    · rw [decide_eq_true hm]
      symm
      refine decide_eq_true ?_
      have e3 : st * ((c - lastOf ts) / st - (c - 1 - lastOf ts) / st) = (c - 1 - lastOf ts) % st + 1 := by rw [Int.mul_sub]; omega
      have lo : 0 < (c - lastOf ts) / st - (c - 1 - lastOf ts) / st := by
        refine Int.not_le.mp fun z => ?_
        have := Int.mul_nonpos_of_nonneg_of_nonpos (Int.le_of_lt hs) z
        omega
      have hi : (c - lastOf ts) / st - (c - 1 - lastOf ts) / st < 2 := by
        refine Int.not_le.mp fun z => ?_
        have := Int.mul_le_mul_of_nonneg_left z (Int.le_of_lt hs)
        omega
      have one : (c - lastOf ts) / st - (c - 1 - lastOf ts) / st = 1 := by omega
      rw [one] at e3
      omega
    · rw [decide_eq_false hm]
      symm
      refine decide_eq_false fun z => hm ?_
      have e4 : c - lastOf ts = st * ((c - 1 - lastOf ts) / st + 1) := by rw [Int.mul_add, Int.mul_one]; omega
      rw [e4, Int.mul_emod_right]
theorem isStop_zero {ts : List Int} {st : Int} (hr : Rise 0 ts) : isStop ts st 0 = false := by
  unfold isStop
  rw [if_pos hr.last_nn]
  refine decide_eq_false fun m => ?_
  have := hr.mem 0 m
  omega
end Tb
namespace Tb
/-! ### rows: columns, spread -/
/-- a ruler, seen as the next stop of each column -/
structure Nx (N : Nat → Nat) : Prop where
  gt : ∀ c, c < N c
  same : ∀ c d, c ≤ d → d < N c → N d = N c
/-- a column is a stop -/
def stp (N : Nat → Nat) (c : Nat) : Prop := 0 < c ∧ N (c - 1) = c
instance (N : Nat → Nat) (c : Nat) : Decidable (stp N c) := by unfold stp; infer_instance
def adv (N : Nat → Nat) (c s : Nat) : Nat := if s = 9 then N c else c + 1
def wid (N : Nat → Nat) : Nat → List Nat → Nat
  | c, [] => c
  | c, s :: r => wid N (adv N c s) r
def cols (N : Nat → Nat) : Nat → List Nat → List Nat
  | c, [] => [c]
  | c, s :: r => c :: cols N (adv N c s) r
def laid (N : Nat → Nat) : Nat → List Nat → List Nat
  | _, [] => []
  | c, s :: r => (if s = 9 then List.replicate (N c - c) 32 else [s]) ++ laid N (adv N c s) r
section
variable {N : Nat → Nat}
theorem adv_gt (h : Nx N) (c s : Nat) : c < adv N c s := by
  unfold adv
  split
  · exact h.gt c
  · omega
theorem wid_le (h : Nx N) : ∀ (l : List Nat) (c : Nat), c + l.length ≤ wid N c l
  | [], c => Nat.le_refl _
  | s :: r, c => by
    have h1 := wid_le h r (adv N c s)
    have h2 := adv_gt h c s
    show c + (r.length + 1) ≤ wid N (adv N c s) r
    omega
theorem wid_append (l m : List Nat) : ∀ c, wid N c (l ++ m) = wid N (wid N c l) m := by
  induction l with
  | nil => intro c; rfl
  | cons s r ih => intro c; exact ih _
theorem laid_append (l m : List Nat) : ∀ c, laid N c (l ++ m) = laid N c l ++ laid N (wid N c l) m := by
  induction l with
  | nil => intro c; rfl
  | cons s r ih =>
    intro c
    show _ ++ laid N (adv N c s) (r ++ m) = (_ ++ laid N (adv N c s) r) ++ laid N (wid N (adv N c s) r) m
    rw [ih, List.append_assoc]
theorem laid_length (h : Nx N) : ∀ (l : List Nat) (c : Nat), (laid N c l).length = wid N c l - c
  | [], c => by simp [laid, wid]
  | s :: r, c => by
    have h1 := laid_length h r (adv N c s)
    have h2 := adv_gt h c s
    have h3 := wid_le h r (adv N c s)
    show ((if s = 9 then List.replicate (N c - c) 32 else [s]) ++ laid N (adv N c s) r).length = wid N (adv N c s) r - c
    rw [List.length_append, h1]
    unfold adv at h2 h3 ⊢
    split <;> simp_all <;> omega
theorem cols_length : ∀ (l : List Nat) (c : Nat), (cols N c l).length = l.length + 1
  | [], _ => rfl
  | s :: r, c => by show (cols N (adv N c s) r).length + 1 = _; rw [cols_length r]; rfl
theorem cols_at : ∀ (l : List Nat) (c i : Nat), i ≤ l.length → (cols N c l)[i]? = some (wid N c (l.take i))
  | [], c, i, h => by
    have : i = 0 := by simpa using h
    subst this
    rfl
  | s :: r, c, 0, _ => rfl
  | s :: r, c, i + 1, h => by
    show (cols N (adv N c s) r)[i]? = some (wid N (adv N c s) (r.take i))
    exact cols_at r _ i (by simpa using h)
theorem cols_snoc (l : List Nat) : ∀ (c : Nat), cols N c l = (cols N c l).take l.length ++ [wid N c l] := by
  induction l with
  | nil => intro c; rfl
  | cons s r ih => intro c; show c :: cols N (adv N c s) r = c :: ((cols N (adv N c s) r).take r.length ++ [wid N (adv N c s) r]); rw [← ih]
theorem wid_take_succ {l : List Nat} {i s : Nat} (h : l[i]? = some s) (c : Nat) : wid N c (l.take (i + 1)) = adv N (wid N c (l.take i)) s := by
  rw [List.take_add_one, h, wid_append]
  rfl
theorem wid_mono (h : Nx N) (l : List Nat) (c i : Nat) : wid N c (l.take i) ≤ wid N c l := by
  have e : wid N c l = wid N (wid N c (l.take i)) (l.drop i) := by rw [← wid_append, List.take_append_drop]
  rw [e]
  have := wid_le h (l.drop i) (wid N c (l.take i))
  omega
theorem laid_take_succ {l : List Nat} {i s : Nat} (h : l[i]? = some s) (c : Nat) :
    laid N c (l.take (i + 1)) = laid N c (l.take i) ++ (if s = 9 then List.replicate (N (wid N c (l.take i)) - wid N c (l.take i)) 32 else [s]) := by
  rw [List.take_add_one, h, laid_append]
  show _ ++ (_ ++ []) = _
  rw [List.append_nil]
/-- what spread's list holds behind i signs -/
def part (N : Nat → Nat) (l : List Nat) (i : Nat) : List Nat := laid N 0 (l.take i) ++ List.replicate (wid N 0 l - wid N 0 (l.take i)) 32
theorem part_zero (l : List Nat) : part N l 0 = List.replicate (wid N 0 l) 32 := by simp [part, laid, wid]
theorem part_all (l : List Nat) : part N l l.length = laid N 0 l := by simp [part]
theorem part_jump (h : Nx N) {l : List Nat} {i : Nat} (hi : l[i]? = some 9) : part N l (i + 1) = part N l i := by
  have e := wid_take_succ (N := N) hi 0
  have m := wid_mono h l 0 (i + 1)
  have g := h.gt (wid N 0 (l.take i))
  unfold part
  rw [laid_take_succ hi, if_pos rfl, List.append_assoc, List.replicate_append_replicate]
  rw [e] at m ⊢
  have e2 : adv N (wid N 0 (l.take i)) 9 = N (wid N 0 (l.take i)) := by unfold adv; rw [if_pos rfl]
  rw [e2] at m ⊢
  congr 2
  omega
theorem part_sign (h : Nx N) {l : List Nat} {i s : Nat} (hi : l[i]? = some s) (hs : s ≠ 9) : part N l (i + 1) = (part N l i).set (wid N 0 (l.take i)) s ∧ wid N 0 (l.take i) < (part N l i).length := by
  have e := wid_take_succ (N := N) hi 0
  have m := wid_mono h l 0 (i + 1)
  have e2 : adv N (wid N 0 (l.take i)) s = wid N 0 (l.take i) + 1 := by unfold adv; rw [if_neg hs]
  rw [e2] at e
  have ll := laid_length h (l.take i) 0
  refine ⟨?_, ?_⟩
  · unfold part
    rw [laid_take_succ hi, if_neg hs, List.set_append_right _ _ (by omega), ll, Nat.sub_zero, Nat.sub_self, e]
    have e3 : wid N 0 l - wid N 0 (l.take i) = (wid N 0 l - (wid N 0 (l.take i) + 1)) + 1 := by omega
    rw [e3, List.replicate_succ, List.set_cons_zero, List.append_assoc]
    rfl
  · unfold part
    rw [List.length_append, ll, List.length_replicate]
    omega
end
end Tb
namespace Tb
/-! ### pressed rows -/
/-- without the blanks at the end -/
def rst (l : List Nat) : List Nat := (l.reverse.dropWhile (· == 32)).reverse
theorem rst_spec (l : List Nat) : ∃ t, l = rst l ++ List.replicate t 32 ∧ ∀ s, (rst l).getLast? = some s → s ≠ 32 := by
  unfold rst
  generalize hm : l.reverse = m
  have el : l = m.reverse := by rw [← hm, List.reverse_reverse]
  subst el
  clear hm
  induction m with
  | nil => exact ⟨0, rfl, by simp⟩
  | cons a m ih =>
    by_cases ha : a = 32
    · subst ha
      obtain ⟨t, e, h⟩ := ih
      refine ⟨t + 1, ?_, ?_⟩
      · rw [List.dropWhile_cons_of_pos (by simp), List.reverse_cons]
        conv => lhs; rw [e]
        rw [List.append_assoc, ← List.replicate_succ']
      · rw [List.dropWhile_cons_of_pos (by simp)]
        exact h
    · refine ⟨0, ?_, ?_⟩
      · rw [List.dropWhile_cons_of_neg (by simpa using ha)]
        simp
      · rw [List.dropWhile_cons_of_neg (by simpa using ha)]
        intro s hs
        simp at hs
        omega
theorem rst_uniq {l k : List Nat} {t : Nat} (e : l = k ++ List.replicate t 32) (h : ∀ s, k.getLast? = some s → s ≠ 32) : rst l = k := by
  unfold rst
  subst e
  rw [List.reverse_append, List.reverse_replicate]
  have g : ∀ t : Nat, (List.replicate t 32 ++ k.reverse).dropWhile (· == 32) = k.reverse := by
    intro t
    induction t with
    | zero =>
      rw [List.replicate_zero, List.nil_append]
      cases hk : k.reverse with
      | nil => rfl
      | cons a r =>
        have : k.getLast? = some a := by rw [← List.head?_reverse, hk]; rfl
        rw [List.dropWhile_cons_of_neg]
        simpa using h a this
    | succ t ih => rw [List.replicate_succ, List.cons_append, List.dropWhile_cons_of_pos (by simp)]; exact ih
  rw [g, List.reverse_reverse]
theorem rst_len (l : List Nat) : (rst l).length ≤ l.length := by
  obtain ⟨t, e, _⟩ := rst_spec l
  have := congrArg List.length e
  rw [List.length_append, List.length_replicate] at this
  omega
/-- a part that ends at a stop, pressed -/
def pp (l : List Nat) : List Nat := if l.length - (rst l).length < 2 then l else rst l ++ [9]
/-- the signs at the columns from b to e - 1 -/
def sub (row : List Nat) (b e : Nat) : List Nat := (row.drop b).take (e - b)
theorem sub_length {row : List Nat} {b e : Nat} (h : e ≤ row.length) : (sub row b e).length = e - b := by
  unfold sub
  rw [List.length_take, List.length_drop]
  omega
theorem sub_one {row : List Nat} {b : Nat} (h : b < row.length) : sub row b (b + 1) = [row[b]] := by
  unfold sub
  rw [show b + 1 - b = 1 by omega, List.drop_eq_getElem_cons h, List.take_succ_cons, List.take_zero]
theorem sub_cons {row : List Nat} {b e : Nat} (h : b < row.length) (he : b < e) : sub row b e = row[b] :: sub row (b + 1) e := by
  unfold sub
  rw [List.drop_eq_getElem_cons h, show e - b = (e - (b + 1)) + 1 by omega, List.take_succ_cons]
theorem sub_split {row : List Nat} {b k e : Nat} (h1 : b ≤ k) (h2 : k ≤ e) : sub row b e = sub row b k ++ sub row k e := by
  unfold sub
  have e1 : e - b = (k - b) + (e - k) := by omega
  rw [e1, List.take_add, List.drop_drop]
  congr 3
  omega
theorem sub_drop {row : List Nat} {b e : Nat} (h : b ≤ e) : row.drop b = sub row b e ++ row.drop e := by
  unfold sub
  have : row.drop e = (row.drop b).drop (e - b) := by rw [List.drop_drop]; congr 1; omega
  rw [this, List.take_append_drop]
theorem sub_self (row : List Nat) (b : Nat) : sub row b b = [] := by simp [sub]
def prsF (N : Nat → Nat) (row : List Nat) : Nat → Nat → List Nat
  | 0, b => row.drop b
  | f + 1, b => if N b ≤ row.length then pp (sub row b (N b)) ++ prsF N row f (N b) else row.drop b
def prs (N : Nat → Nat) (row : List Nat) (b : Nat) : List Nat := prsF N row (row.length - b) b
theorem prsF_more {N : Nat → Nat} (h : Nx N) (row : List Nat) : ∀ (f b : Nat), row.length - b ≤ f → prsF N row (f + 1) b = prsF N row f b
  | 0, b, hf => by
    have g := h.gt b
    show (if N b ≤ row.length then _ else _) = row.drop b
    rw [if_neg (by omega)]
  | f + 1, b, hf => by
    have g := h.gt b
    show (if N b ≤ row.length then pp (sub row b (N b)) ++ prsF N row (f + 1) (N b) else row.drop b) = if N b ≤ row.length then pp (sub row b (N b)) ++ prsF N row f (N b) else row.drop b
    split
    · rw [prsF_more h row f (N b) (by omega)]
    · rfl
theorem prsF_enough {N : Nat → Nat} (h : Nx N) (row : List Nat) (b : Nat) : ∀ f, row.length - b ≤ f → prsF N row f b = prs N row b
  | 0, hf => by unfold prs; rw [show row.length - b = 0 by omega]
  | f + 1, hf => by
    rcases Nat.lt_or_eq_of_le hf with q | q
    · rw [prsF_more h row f b (by omega)]
      exact prsF_enough h row b f (by omega)
    · unfold prs; rw [q]
theorem prs_eq {N : Nat → Nat} (h : Nx N) (row : List Nat) (b : Nat) : prs N row b = if N b ≤ row.length then pp (sub row b (N b)) ++ prs N row (N b) else row.drop b := by
  have g := h.gt b
  rw [← prsF_enough h row b (row.length - b + 1) (by omega)]
  show (if N b ≤ row.length then pp (sub row b (N b)) ++ prsF N row (row.length - b) (N b) else row.drop b) = _
  split
  · rw [prsF_enough h row (N b) _ (by omega)]
  · rfl
/-! ### what a walk through a pressed row sees -/
def tight (N : Nat → Nat) (plain : List Nat) : Nat → List Nat → List Nat → Prop
  | c, _, [] => c = plain.length
  | c, bf, s :: r => if s = 9 then (N c ≤ plain.length ∧ 2 ≤ N c - c ∧ sub plain c (N c) = List.replicate (N c - c) 32 ∧ (bf ≠ [32] ∨ stp N c)) ∧ tight N plain (N c) [9] r
    else (sub plain c (c + 1) = [s] ∧ (bf ++ [s] = [32, 32] → stp N (c + 1) → stp N c)) ∧ tight N plain (c + 1) [s] r
section
variable {N : Nat → Nat} {plain : List Nat}
theorem stp_next (h : Nx N) {b c : Nat} (h1 : b ≤ c) (h2 : c + 1 < N b) : ¬ stp N (c + 1) := fun ⟨_, e⟩ => by
  have := h.same b c h1 (by omega)
  rw [Nat.add_sub_cancel] at e
  omega
theorem stp_N (h : Nx N) (c : Nat) : stp N (N c) := by
  have g := h.gt c
  exact ⟨by omega, h.same c (N c - 1) (by omega) (by omega)⟩
/-- plain signs at columns of one part, ahead of its end -/
theorem tight_run (h : Nx N) (h9 : 9 ∉ plain) {b : Nat} {r : List Nat} : ∀ (k c : Nat) (bf : List Nat), b ≤ c → c + k ≤ plain.length → c + k < N b →
    (∀ bf', (k = 0 → bf' = bf) → (∀ (_ : 0 < k) (z : c + k - 1 < plain.length), bf' = [plain[c + k - 1]]) → tight N plain (c + k) bf' r) → tight N plain c bf (sub plain c (c + k) ++ r)
  | 0, c, bf, _, _, _, hr => by rw [Nat.add_zero, sub_self]; exact hr bf (fun _ => rfl) (fun z => absurd z (Nat.lt_irrefl _))
  | k + 1, c, bf, hb, hk, he, hr => by
    have hc : c < plain.length := by omega
    rw [sub_cons (e := c + (k + 1)) hc (by omega), List.cons_append]
    have ns : plain[c] ≠ 9 := fun e => h9 (e ▸ List.getElem_mem hc)
    unfold tight
    rw [if_neg ns]
    refine ⟨⟨sub_one hc, fun e st => absurd st (stp_next (b := b) h hb (by omega))⟩, ?_⟩
    have e1 : c + (k + 1) = (c + 1) + k := by omega
    rw [e1]
    refine tight_run (b := b) h h9 k (c + 1) [plain[c]] (by omega) (by omega) (by omega) fun bf' h0 h1 => ?_
    rw [← e1]
    refine hr bf' (fun z => absurd z (by omega)) fun _ z => ?_
    by_cases k0 : k = 0
    · subst k0
      rw [h0 rfl]
      rfl
    · have := h1 (by omega) (by omega)
      rw [this]
      have e2 : c + 1 + k - 1 = c + (k + 1) - 1 := by omega
      simp only [e2]
theorem getLast_sub {b k : Nat} (h : k < plain.length) (hb : b ≤ k) : (sub plain b (k + 1)).getLast? = some plain[k] := by
  rw [sub_split hb (by omega : k ≤ k + 1), sub_one h, List.getLast?_append]
  rfl
theorem tight_prs (h : Nx N) (h9 : 9 ∉ plain) : ∀ (n b : Nat) (bf : List Nat), plain.length - b ≤ n → b ≤ plain.length → (stp N b ∨ bf = []) → tight N plain b bf (prs N plain b)
  | n, b, bf, hn, hb, hs => by
    have g := h.gt b
    rw [prs_eq h]
    by_cases hN : N b ≤ plain.length
    · rw [if_pos hN]
      cases n with
      | zero => omega
      | succ n =>
        have rest : ∀ bf', tight N plain (N b) bf' (prs N plain (N b)) := fun bf' => tight_prs h h9 n (N b) bf' (by omega) hN (.inl (stp_N h b))
        obtain ⟨t, et, ht⟩ := rst_spec (sub plain b (N b))
        have hl : (sub plain b (N b)).length = N b - b := sub_length hN
        have hl2 : N b - b = (rst (sub plain b (N b))).length + t := by
          have := congrArg List.length et
          rw [List.length_append, List.length_replicate] at this
          omega
        unfold pp
        by_cases t2 : (sub plain b (N b)).length - (rst (sub plain b (N b))).length < 2
        · rw [if_pos t2]
          have hlast : N b - 1 < plain.length := by omega
          have e1 : N b = (N b - 1) + 1 := by omega
          have e2 : sub plain b (N b) = sub plain b (b + (N b - 1 - b)) ++ [plain[N b - 1]] := by
            have e3 : b + (N b - 1 - b) = N b - 1 := by omega
            rw [e3, ← sub_one hlast, ← e1]
            exact sub_split (by omega) (by omega)
          rw [e2, List.append_assoc]
          refine tight_run h h9 (b := b) _ b bf (Nat.le_refl _) (by omega) (by omega) fun bf' h0 h1 => ?_
          have e3 : b + (N b - 1 - b) = N b - 1 := by omega
          rw [e3]
          have ns : plain[N b - 1] ≠ 9 := fun e => h9 (e ▸ List.getElem_mem hlast)
          show tight N plain (N b - 1) bf' (plain[N b - 1] :: prs N plain (N b))
          unfold tight
          rw [if_neg ns]
          refine ⟨⟨sub_one hlast, fun e _ => ?_⟩, by rw [← e1]; exact rest _⟩
          have e4 : bf' = [32] ∧ plain[N b - 1] = 32 := by
            have := List.append_inj' (s₁ := bf') (s₂ := [32]) (t₁ := [plain[N b - 1]]) (t₂ := [32]) e rfl
            exact ⟨this.1, by simpa using this.2⟩
          by_cases k0 : N b - 1 - b = 0
          · rw [show N b - 1 = b by omega]
            rcases hs with hs | hs
            · exact hs
            · rw [h0 k0, hs] at e4
              exact absurd e4.1 (by simp)
          · exfalso
            have e5 := h1 (by omega) (by omega)
            have hlast2 : N b - 1 - 1 < plain.length := by omega
            have e6 : plain[N b - 1 - 1] = 32 := by
              have e7 : b + (N b - 1 - b) - 1 = N b - 1 - 1 := by omega
              have := e5.symm.trans e4.1
              simp only [e7] at this
              simpa using this
            -- two blanks at the part's end
            have e8 : sub plain b (N b) = sub plain b (N b - 2) ++ List.replicate 2 32 := by
              rw [sub_split (show b ≤ N b - 2 by omega) (by omega : N b - 2 ≤ N b)]
              congr 1
              rw [sub_cons (by omega) (by omega)]
              have e9 : N b - 2 + 1 = N b - 1 := by omega
              simp only [e9]
              have e10 : sub plain (N b - 1) (N b) = [plain[N b - 1]] := by
                conv => lhs; rw [e1]
                exact sub_one hlast
              rw [e10, e4.2]
              have e11 : N b - 2 = N b - 1 - 1 := by omega
              simp only [e11, e6]
              rfl
            obtain ⟨t', et', ht'⟩ := rst_spec (sub plain b (N b - 2))
            rw [et', List.append_assoc, List.replicate_append_replicate] at e8
            have e12 := rst_uniq e8 ht'
            have e13 := congrArg List.length e8
            rw [List.length_append, List.length_replicate] at e13
            rw [e12] at t2
            omega
        · rw [if_neg t2]
          have ek0 : ∀ k, b + k ≤ N b → List.take k (sub plain b (N b)) = sub plain b (b + k) := by
            intro k hk
            unfold sub
            rw [List.take_take]
            congr 1
            omega
          have ek : rst (sub plain b (N b)) = sub plain b (b + (rst (sub plain b (N b))).length) := by
            rw [← ek0 _ (by omega)]
            have := congrArg (List.take (rst (sub plain b (N b))).length) et
            rw [List.take_left] at this
            exact this.symm
          generalize hk : (rst (sub plain b (N b))).length = k at *
          rw [ek, List.append_assoc]
          refine tight_run h h9 (b := b) k b bf (Nat.le_refl _) (by omega) (by omega) fun bf' h0 h1 => ?_
          have eN : N (b + k) = N b := h.same b (b + k) (by omega) (by omega)
          show tight N plain (b + k) bf' (9 :: prs N plain (N b))
          unfold tight
          rw [if_pos rfl, eN]
          refine ⟨⟨hN, by omega, ?_, ?_⟩, rest _⟩
          · have e5 := sub_split (row := plain) (show b ≤ b + k by omega) (by omega : b + k ≤ N b)
            rw [← ek] at e5
            have := List.append_cancel_left (e5.symm.trans et)
            rw [this]
            congr 1
            omega
          · by_cases k0 : k = 0
            · rw [h0 k0, k0]
              rcases hs with hs | hs
              · exact .inr hs
              · exact .inl (by rw [hs]; simp)
            · left
              rw [h1 (by omega) (by omega)]
              intro e
              have e6 : plain[b + k - 1] = 32 := by simpa using e
              have e7 := getLast_sub (plain := plain) (b := b) (k := b + k - 1) (by omega) (by omega)
              have e8 : b + k - 1 + 1 = b + k := by omega
              rw [e8, ← ek] at e7
              exact ht _ e7 e6
    · rw [if_neg hN]
      have e1 : plain.drop b = sub plain b (b + (plain.length - b)) ++ [] := by
        rw [List.append_nil]
        unfold sub
        rw [List.take_of_length_le (by rw [List.length_drop]; omega)]
      rw [e1]
      refine tight_run h h9 (b := b) _ b bf (Nat.le_refl _) (by omega) (by omega) fun bf' _ _ => ?_
      show b + (plain.length - b) = plain.length
      omega
/-- a row through which such a walk leads is spread to the plain row -/
theorem tight_laid (h : Nx N) : ∀ (l : List Nat) (c : Nat) (bf : List Nat), c ≤ plain.length → tight N plain c bf l → laid N c l = plain.drop c
  | [], c, bf, _, e => by
    have e' : c = plain.length := e
    rw [e', List.drop_length]
    rfl
  | s :: r, c, bf, hc, e => by
    unfold tight at e
    unfold laid adv
    have g := h.gt c
    by_cases hs : s = 9
    · rw [if_pos hs] at e ⊢
      rw [if_pos hs]
      obtain ⟨⟨e1, _, e2, _⟩, e3⟩ := e
      rw [tight_laid h r (N c) _ e1 e3, ← e2]
      exact (sub_drop (by omega)).symm
    · rw [if_neg hs] at e ⊢
      rw [if_neg hs]
      obtain ⟨⟨e1, _⟩, e3⟩ := e
      have hc' : c < plain.length := by
        refine Nat.lt_of_le_of_ne hc fun z => ?_
        rw [z] at e1
        simp [sub] at e1
      rw [tight_laid h r (c + 1) _ hc' e3, ← e1]
      exact (sub_drop (by omega)).symm
theorem laid_prs (h : Nx N) (h9 : 9 ∉ plain) : laid N 0 (prs N plain 0) = plain := by
  have := tight_laid h _ 0 [] (Nat.zero_le _) (tight_prs h h9 _ 0 [] (Nat.le_refl _) (Nat.zero_le _) (.inr rfl))
  rw [this]
  rfl
/-! ### no row that is spread to it is shorter -/
def Lx (a b c d : Nat) : Prop := a < c ∨ (a = c ∧ b ≤ d)
theorem Lx.add {a b c d a' b' c' d' : Nat} (h : Lx a b c d) (h' : Lx a' b' c' d') : Lx (a + a') (b + b') (c + c') (d + d') := by unfold Lx at *; omega
theorem no9_laid : ∀ (l : List Nat) (c : Nat), 9 ∉ laid N c l
  | [], c => by simp [laid]
  | s :: r, c => by
    unfold laid
    rw [List.mem_append]
    rintro (h | h)
    · split at h
      · have := List.eq_of_mem_replicate h
        omega
      · rename_i hs
        simp at h
        exact hs h.symm
    · exact no9_laid r _ h
/-- a row that leads through a part: its signs, or the first of them and a jump over blanks -/
theorem splits (h : Nx N) (h9 : 9 ∉ plain) {b : Nat} (hN : N b ≤ plain.length) : ∀ (l : List Nat) (c : Nat), b ≤ c → c ≤ N b → laid N c l = plain.drop c →
    ∃ r1 r2, l = r1 ++ r2 ∧ (r1 = sub plain c (N b) ∨ ∃ k, c ≤ k ∧ k < N b ∧ r1 = sub plain c k ++ [9] ∧ sub plain k (N b) = List.replicate (N b - k) 32) ∧ laid N (N b) r2 = plain.drop (N b)
  | l, c, hb, hc, e => by
    by_cases hcN : c = N b
    · exact ⟨[], l, rfl, .inl (by rw [hcN, sub_self]), by rw [← hcN]; exact e⟩
    · have hlt : c < N b := by omega
      have eN : N c = N b := h.same b c hb hlt
      cases l with
      | nil =>
        have := congrArg List.length e
        simp [laid] at this
        omega
      | cons s r =>
        have hcp : c < plain.length := by omega
        unfold laid adv at e
        by_cases hs : s = 9
        · rw [if_pos hs, if_pos hs, eN] at e
          rw [sub_drop (Nat.le_of_lt hlt)] at e
          have := List.append_inj e (by rw [List.length_replicate, sub_length hN])
          exact ⟨[9], r, by rw [hs]; rfl, .inr ⟨c, Nat.le_refl _, hlt, by rw [sub_self]; rfl, this.1.symm⟩, this.2⟩
        · rw [if_neg hs, if_neg hs, List.drop_eq_getElem_cons hcp] at e
          have e1 := List.cons.inj e
          obtain ⟨r1, r2, er, hr, h2⟩ := splits h h9 hN r (c + 1) (by omega) (by omega) e1.2
          refine ⟨s :: r1, r2, by rw [er]; rfl, ?_, h2⟩
          rcases hr with hr | ⟨k, k1, k2, hr, hk⟩
          · left
            rw [sub_cons hcp hlt, hr, e1.1]
          · right
            refine ⟨k, by omega, k2, ?_, hk⟩
            rw [sub_cons hcp (by omega), hr, e1.1]
            rfl
theorem count_sub9 (h9 : 9 ∉ plain) (b e : Nat) : (sub plain b e).count 9 = 0 := by
  rw [List.count_eq_zero]
  intro m
  exact h9 (List.mem_of_mem_drop (List.mem_of_mem_take m))
theorem pp_best (h9 : 9 ∉ plain) {c e : Nat} (he : e ≤ plain.length) {r1 : List Nat} (hr : r1 = sub plain c e ∨ ∃ k, c ≤ k ∧ k < e ∧ r1 = sub plain c k ++ [9] ∧ sub plain k e = List.replicate (e - k) 32) :
    Lx (pp (sub plain c e)).length ((pp (sub plain c e)).count 9) r1.length (r1.count 9) := by
  obtain ⟨t, et, ht⟩ := rst_spec (sub plain c e)
  have c0 := count_sub9 h9 c e
  have hl := congrArg List.length et
  rw [List.length_append, List.length_replicate] at hl
  have hc9 : (rst (sub plain c e)).count 9 = 0 := by
    have := congrArg (List.count 9) et
    rw [List.count_append] at this
    omega
  have e0 : (sub plain c e).length = e - c := sub_length he
  -- blanks at the end: a jump begins at or behind the last sign that is no blank
  have key : ∀ k, c ≤ k → k < e → sub plain k e = List.replicate (e - k) 32 → (rst (sub plain c e)).length ≤ k - c := by
    intro k h1 h2 h3
    obtain ⟨t', et', ht'⟩ := rst_spec (sub plain c k)
    have e1 : sub plain c e = rst (sub plain c k) ++ List.replicate (t' + (e - k)) 32 := by
      rw [sub_split h1 (Nat.le_of_lt h2), h3]
      conv => lhs; rw [et']
      rw [List.append_assoc, List.replicate_append_replicate]
    rw [rst_uniq e1 ht']
    have := rst_len (sub plain c k)
    rw [sub_length (by omega)] at this
    exact this
  unfold pp
  rcases hr with hr | ⟨k, k1, k2, hr, hk⟩
  · subst hr
    split
    · exact .inr ⟨rfl, Nat.le_refl _⟩
    · left
      rw [List.length_append]
      show (rst (sub plain c e)).length + 1 < _
      omega
  · have kk := key k k1 k2 hk
    have ll : r1.length = k - c + 1 := by rw [hr, List.length_append, sub_length (by omega)]; rfl
    have lc : r1.count 9 = 1 := by rw [hr, List.count_append, count_sub9 h9]; rfl
    rw [ll, lc]
    split
    · unfold Lx
      omega
    · have : (rst (sub plain c e) ++ [9]).count 9 = 1 := by rw [List.count_append, hc9]; rfl
      rw [this, List.length_append]
      unfold Lx
      simp
      omega
theorem prs_best (h : Nx N) (h9 : 9 ∉ plain) : ∀ (n b : Nat) (l : List Nat), plain.length - b ≤ n → b ≤ plain.length → laid N b l = plain.drop b → Lx (prs N plain b).length ((prs N plain b).count 9) l.length (l.count 9)
  | n, b, l, hn, hb, e => by
    have g := h.gt b
    rw [prs_eq h]
    by_cases hN : N b ≤ plain.length
    · rw [if_pos hN]
      cases n with
      | zero => omega
      | succ n =>
        obtain ⟨r1, r2, el, hr, h2⟩ := splits h h9 hN l b (Nat.le_refl _) (by omega) e
        have i2 := prs_best h h9 n (N b) r2 (by omega) hN h2
        have i1 := pp_best h9 hN hr
        rw [el, List.length_append, List.count_append, List.length_append, List.count_append]
        exact i1.add i2
    · rw [if_neg hN]
      -- no jump at all
      have key : ∀ (l : List Nat) (c : Nat), b ≤ c → laid N c l = plain.drop c → l = plain.drop c := by
        intro l
        induction l with
        | nil => intro c _ e; exact e
        | cons s r ih =>
          intro c hc e
          have hcp : c < plain.length := by
            refine Nat.lt_of_not_le fun z => ?_
            rw [List.drop_of_length_le z] at e
            have := congrArg List.length e
            have g2 := h.gt c
            unfold laid at this
            rw [List.length_append] at this
            split at this
            · rw [List.length_replicate] at this
              simp at this
              omega
            · simp at this
          have eN : N c = N b := h.same b c hc (by omega)
          unfold laid adv at e
          by_cases hs : s = 9
          · rw [if_pos hs, if_pos hs, eN] at e
            have := congrArg List.length e
            rw [List.length_append, List.length_replicate, List.length_drop] at this
            omega
          · rw [if_neg hs, if_neg hs, List.drop_eq_getElem_cons hcp] at e
            have e1 := List.cons.inj e
            rw [List.drop_eq_getElem_cons hcp, ih (c + 1) (by omega) e1.2, e1.1]
      rw [key l b (Nat.le_refl _) e]
      exact .inr ⟨rfl, Nat.le_refl _⟩
end
end Tb
namespace Tb
/-! ### a ruler as the next stop of each column -/
theorem nextStop_same {ts : List Int} {st c d : Int} (hr : Rise 0 ts) (hs : 0 < st) (hc : 0 ≤ c) (h1 : c ≤ d) (h2 : d < nextStop ts st c) : nextStop ts st d = nextStop ts st c := by
  unfold nextStop at h2 ⊢
  by_cases h : c < lastOf ts
  · rw [if_pos h] at h2 ⊢
    have hne : ts ≠ [] := fun e => by subst e; rw [lastOf_nil] at h; omega
    obtain ⟨g1, g2, g3⟩ := firstGt_spec hr h hne
    have := hr.le_last _ g1
    rw [if_pos (by omega)]
    exact firstGt_uniq hr g1 h2 fun t m ht => g3 t m (by omega)
  · rw [if_neg h] at h2 ⊢
    rw [if_neg (by omega)]
    congr 2
    have e1 := Int.mul_ediv_add_emod (c - lastOf ts) st
    have a1 := Int.emod_nonneg (c - lastOf ts) (by omega : st ≠ 0)
    have a2 := Int.emod_lt_of_pos (c - lastOf ts) hs
    have h4 : ((c - lastOf ts) / st + 1) * st = st * ((c - lastOf ts) / st) + st := by rw [Int.add_mul, Int.one_mul, Int.mul_comm]
    rw [h4] at h2
    have : (d - lastOf ts) / st = (c - lastOf ts) / st := by
      have e : d - lastOf ts = (d - lastOf ts - st * ((c - lastOf ts) / st)) + st * ((c - lastOf ts) / st) := by omega
      rw [e, Int.add_mul_ediv_left _ _ (by omega : st ≠ 0), Int.ediv_eq_zero_of_lt (by omega) (by omega)]
      omega
    rw [this]
def nx (ts : List Int) (st : Int) (c : Nat) : Nat := (nextStop ts st (c : Int)).toNat
theorem nx_cast {ts : List Int} {st : Int} (hr : Rise 0 ts) (hs : 0 < st) (c : Nat) : nextStop ts st (c : Int) = (nx ts st c : Int) := by
  unfold nx
  have := nextStop_gt hr hs (Int.natCast_nonneg c)
  omega
theorem nx_nx {ts : List Int} {st : Int} (hr : Rise 0 ts) (hs : 0 < st) : Nx (nx ts st) := by
  refine ⟨fun c => ?_, fun c d h1 h2 => ?_⟩
  · have := nextStop_gt hr hs (Int.natCast_nonneg c)
    have := nx_cast hr hs c
    omega
  · have e := nx_cast hr hs c
    have := nextStop_same (d := (d : Int)) hr hs (Int.natCast_nonneg c) (by omega) (by omega)
    have e2 := nx_cast hr hs d
    omega
theorem stp_iff {ts : List Int} {st : Int} (hr : Rise 0 ts) (hs : 0 < st) (c : Nat) : isStop ts st (c : Int) = decide (stp (nx ts st) c) := by
  by_cases h : c = 0
  · subst h
    rw [show ((0 : Nat) : Int) = 0 from rfl, isStop_zero hr]
    exact (decide_eq_false fun z => Nat.lt_irrefl _ z.1).symm
  · have hc : 0 < c := by omega
    rw [isStop_iff hr hs (by omega)]
    have e : (c : Int) - 1 = ((c - 1 : Nat) : Int) := by omega
    rw [e, nx_cast hr hs]
    by_cases z : nx ts st (c - 1) = c
    · rw [decide_eq_true (by omega), decide_eq_true ⟨hc, z⟩]
    · rw [decide_eq_false (by omega), decide_eq_false fun y => z y.2]
/-- how far a row can go -/
theorem nextStop_le {ts : List Int} {st c : Int} (hr : Rise 0 ts) (hs : 0 < st) (hc : 0 ≤ c) : nextStop ts st c ≤ (if c > lastOf ts then c else lastOf ts) + st := by
  rcases nextStop_near hr hs hc with h | h
  · split <;> omega
  · omega
theorem wid_bound {ts : List Int} {st : Int} (hr : Rise 0 ts) (hs : 0 < st) : ∀ (l : List Nat) (c : Nat), ((wid (nx ts st) c l : Nat) : Int) ≤ (if (c : Int) > lastOf ts then (c : Int) else lastOf ts) + l.length * st
  | [], c => by
    show (c : Int) ≤ _ + ((0 : Nat) : Int) * st
    split <;> omega
  | s :: r, c => by
    have ih := wid_bound hr hs r (adv (nx ts st) c s)
    have h1 := nextStop_le hr hs (Int.natCast_nonneg c)
    rw [nx_cast hr hs] at h1
    show ((wid (nx ts st) (adv (nx ts st) c s) r : Nat) : Int) ≤ _ + ((r.length + 1 : Nat) : Int) * st
    have e : ((r.length + 1 : Nat) : Int) * st = r.length * st + st := by rw [Int.natCast_add, Int.add_mul]; simp
    rw [e]
    have h2 : (adv (nx ts st) c s : Int) ≤ (if (c : Int) > lastOf ts then (c : Int) else lastOf ts) + st := by
      unfold adv
      split
      · exact h1
      · split <;> omega
    have h3 : (if ((adv (nx ts st) c s : Nat) : Int) > lastOf ts then ((adv (nx ts st) c s : Nat) : Int) else lastOf ts) ≤ (if (c : Int) > lastOf ts then (c : Int) else lastOf ts) + st := by
      split
      · exact h2
      · split <;> omega
    omega
/-- the walk of the law: told stops one by one -/
theorem firstGt_next {ts : List Int} {st c : Int} (hr : Rise 0 ts) {i : Nat} {t : Int} (hi : ts[i]? = some t) (hb : ∀ (j : Nat) x, j < i → ts[j]? = some x → x ≤ c) (ht : c < t) : nextStop ts st c = t := by
  have m := hr.le_last t (List.mem_of_getElem? hi)
  unfold nextStop
  rw [if_pos (by omega)]
  exact firstGt_at hr hi ht hb
theorem none_next {ts : List Int} {st c : Int} (hc : 0 ≤ c) (hb : ∀ t ∈ ts, t ≤ c) : nextStop ts st c = lastOf ts + ((c - lastOf ts) / st + 1) * st := by
  unfold nextStop
  rw [if_neg]
  intro z
  by_cases e : ts = []
  · subst e; rw [lastOf_nil] at z; omega
  · have := hb _ (last_mem e); omega
end Tb
namespace Tb
/-! ### tolls, the ledger, the best stops -/
/-- the toll of one row -/
def tollR (b e : Nat) (row : List Nat) : Nat := if e ≤ row.length ∧ row[e - 1]? = some 32 then (rst (sub row b e)).length + 1 else (sub row b e).length
def toll (rows : List (List Nat)) (b e : Nat) : Nat := (rows.map (tollR b e)).sum
/-- what the program counts of one row: a jump, the signs that are kept -/
def keptR (e : Nat) (row : List Nat) : Nat := if e ≤ row.length ∧ row[e - 1]? = some 32 then (rst (row.take e)).length else min e row.length
def jumpR (e : Nat) (row : List Nat) : Nat := if e ≤ row.length ∧ row[e - 1]? = some 32 then 1 else 0
theorem rst_drop (l : List Nat) (b : Nat) : (rst (l.drop b)).length = (rst l).length - b := by
  obtain ⟨t, e, h⟩ := rst_spec l
  generalize hk : rst l = k at e h
  by_cases hb : b < k.length
  · have e1 : l.drop b = k.drop b ++ List.replicate t 32 := by rw [e, List.drop_append_of_le_length (by omega)]
    rw [rst_uniq e1, List.length_drop]
    intro s hs
    refine h s ?_
    rw [List.getLast?_drop] at hs
    split at hs
    · cases hs
    · exact hs
  · have e1 : l.drop b = [] ++ List.replicate (t - (b - k.length)) 32 := by
      rw [e, List.drop_append, List.drop_of_length_le (by omega), List.drop_replicate]
    rw [rst_uniq e1 (by simp)]
    simp
    omega
theorem tollR_eq {b e : Nat} (row : List Nat) (hb : b ≤ e) : tollR b e row = jumpR e row + (keptR e row - b) := by
  unfold tollR jumpR keptR
  have es : sub row b e = (row.take e).drop b := by
    unfold sub
    rw [List.drop_take]
  split
  · rw [es, rst_drop]
    omega
  · rw [es, List.length_drop, List.length_take]
    omega
theorem toll_eq (rows : List (List Nat)) {b e : Nat} (hb : b ≤ e) : toll rows b e = (rows.map (jumpR e)).sum + ((rows.map (keptR e)).map fun k => k - b).sum := by
  unfold toll
  induction rows with
  | nil => rfl
  | cons r rs ih =>
    simp only [List.map_cons, List.sum_cons]
    rw [ih, tollR_eq r hb]
    omega
def rest (rows : List (List Nat)) (b : Nat) : Nat := (rows.map fun r => r.length - b).sum
/-- a row's signs when it is pressed by these stops: part by part -/
def costR (row : List Nat) : Nat → List Nat → Nat
  | b, [] => row.length - b
  | b, e :: r => tollR b e row + costR row e r
def Up : Nat → List Nat → Prop
  | _, [] => True
  | b, e :: r => b < e ∧ Up e r
theorem costR_short {row : List Nat} : ∀ (S : List Nat) (b : Nat), Up b S → row.length ≤ b → costR row b S = 0
  | [], b, _, h => by show row.length - b = 0; omega
  | e :: r, b, hu, h => by
    show tollR b e row + costR row e r = 0
    have hs : (sub row b e).length = 0 := by unfold sub; rw [List.drop_of_length_le h]; simp
    have hbe := hu.1
    unfold tollR
    rw [if_neg (by omega), costR_short r e hu.2 (by omega), hs]
theorem pp_len {row : List Nat} {b e : Nat} (hb : b < e) (he : e ≤ row.length) : (pp (sub row b e)).length = tollR b e row := by
  obtain ⟨t, et, ht⟩ := rst_spec (sub row b e)
  have hl := congrArg List.length et
  rw [List.length_append, List.length_replicate] at hl
  have h0 : (sub row b e).length = e - b := sub_length he
  have g : row[e - 1]? = some row[e - 1] := List.getElem?_eq_getElem (by omega)
  have gl := getLast_sub (plain := row) (b := b) (k := e - 1) (by omega) (by omega)
  rw [show e - 1 + 1 = e by omega] at gl
  unfold pp tollR
  by_cases h32 : row[e - 1] = 32
  · rw [if_pos (⟨he, by rw [g, h32]⟩ : e ≤ row.length ∧ row[e - 1]? = some 32)]
    have t0 : t ≠ 0 := fun z => by
      rw [z, List.replicate_zero, List.append_nil] at et
      rw [et] at gl
      exact ht _ gl h32
    split
    · omega
    · rw [List.length_append]; rfl
  · have nz : ¬ (e ≤ row.length ∧ row[e - 1]? = some 32) := fun z => h32 (by have := z.2; rw [g] at this; exact Option.some.inj this)
    rw [if_neg nz]
    have t0 : t = 0 := by
      refine Classical.byContradiction fun z => ?_
      have e1 : t = (t - 1) + 1 := by omega
      rw [et, e1, List.replicate_succ', ← List.append_assoc, List.getLast?_append] at gl
      have : (32 : Nat) = row[e - 1] := by simpa using gl
      exact h32 this.symm
    rw [if_pos (by omega)]
/-- the stops of N behind b, up to W -/
def Stops (N : Nat → Nat) (W : Nat) : Nat → List Nat → Prop
  | b, [] => W < N b
  | b, e :: r => N b = e ∧ e ≤ W ∧ Stops N W e r
theorem Stops.up {N : Nat → Nat} (h : Nx N) {W : Nat} : ∀ {S : List Nat} {b : Nat}, Stops N W b S → Up b S
  | [], _, _ => trivial
  | e :: r, b, s => ⟨by have := h.gt b; have := s.1; omega, Stops.up h s.2.2⟩
theorem prs_cost {N : Nat → Nat} (h : Nx N) {W : Nat} {row : List Nat} (hw : row.length ≤ W) : ∀ (S : List Nat) (b : Nat), Stops N W b S → (prs N row b).length = costR row b S
  | [], b, s => by
    have s' : W < N b := s
    rw [prs_eq h, if_neg (by omega), List.length_drop]
    rfl
  | e :: r, b, s => by
    obtain ⟨s1, s2, s3⟩ := s
    have g := h.gt b
    rw [prs_eq h, s1]
    show _ = tollR b e row + costR row e r
    by_cases he : e ≤ row.length
    · rw [if_pos he, List.length_append, prs_cost h hw r e s3, pp_len (by omega) he]
    · rw [if_neg he, costR_short r e (s3.up h) (by omega)]
      unfold tollR
      rw [if_neg (by omega)]
      unfold sub
      rw [List.length_take, List.length_drop]
      omega
def pathC (rows : List (List Nat)) : Nat → List Nat → Nat
  | b, [] => rest rows b
  | b, e :: r => toll rows b e + pathC rows e r
theorem sum_costR (rows : List (List Nat)) : ∀ (S : List Nat) (b : Nat), (rows.map fun r => costR r b S).sum = pathC rows b S
  | [], b => rfl
  | e :: r, b => by
    show _ = toll rows b e + pathC rows e r
    rw [← sum_costR rows r e]
    unfold toll
    induction rows with
    | nil => rfl
    | cons x xs ih =>
      simp only [List.map_cons, List.sum_cons]
      rw [ih]
      show tollR b e x + costR x e r + _ = _
      omega
theorem sum_prs {N : Nat → Nat} (h : Nx N) {W : Nat} {rows : List (List Nat)} (hw : ∀ r ∈ rows, r.length ≤ W) {S : List Nat} (s : Stops N W 0 S) : (rows.map fun r => (prs N r 0).length).sum = pathC rows 0 S := by
  rw [← sum_costR]
  congr 1
  exact List.map_congr_left fun r m => prs_cost h (hw r m) S 0 s
/-- every ruler has such a list of stops -/
theorem stops_ex {N : Nat → Nat} (h : Nx N) (W : Nat) : ∀ (n b : Nat), W - b ≤ n → ∃ S, Stops N W b S
  | n, b, hn => by
    have g := h.gt b
    by_cases hN : N b ≤ W
    · cases n with
      | zero => omega
      | succ n =>
        obtain ⟨S, s⟩ := stops_ex h W n (N b) (by omega)
        exact ⟨N b :: S, rfl, hN, s⟩
    · exact ⟨[], (by omega : W < N b)⟩
/-! #### the ledger -/
def mn : List Int → Int
  | [] => 0
  | a :: r => r.foldl (fun m x => if x < m then x else m) a
theorem fold_mn : ∀ (r : List Int) (a : Int), r.foldl (fun m x => if x < m then x else m) a ≤ a ∧ (∀ x ∈ r, r.foldl (fun m x => if x < m then x else m) a ≤ x) ∧ (r.foldl (fun m x => if x < m then x else m) a = a ∨ r.foldl (fun m x => if x < m then x else m) a ∈ r)
  | [], a => ⟨Int.le_refl _, by simp, .inl rfl⟩
  | y :: r, a => by
    obtain ⟨h1, h2, h3⟩ := fold_mn r (if y < a then y else a)
    rw [List.foldl_cons]
    have hy : (if y < a then y else a) ≤ y ∧ (if y < a then y else a) ≤ a := by split <;> omega
    refine ⟨Int.le_trans h1 hy.2, ?_, ?_⟩
    · intro x hx
      rcases List.mem_cons.mp hx with e | m
      · rw [e]
        exact Int.le_trans h1 hy.1
      · exact h2 x m
    · rcases h3 with e | m
      · split at e
        · right; rw [if_pos (by assumption), e]; simp
        · left; rw [if_neg (by assumption), e]
      · exact .inr (List.mem_cons_of_mem _ m)
theorem mn_le {l : List Int} {x : Int} (h : x ∈ l) : mn l ≤ x := by
  cases l with
  | nil => cases h
  | cons a r =>
    rcases List.mem_cons.mp h with e | m
    · subst e; exact (fold_mn r x).1
    · exact (fold_mn r a).2.1 x m
theorem mn_mem {l : List Int} (h : l ≠ []) : mn l ∈ l := by
  cases l with
  | nil => exact absurd rfl h
  | cons a r =>
    rcases (fold_mn r a).2.2 with e | m
    · show r.foldl _ a ∈ _
      rw [e]; simp
    · exact List.mem_cons_of_mem _ m
def ld (L : List Int) (b : Nat) : Int := L.getD b 0
/-- the ledger's numbers, one by one -/
def LedTo (rows : List (List Nat)) (L : List Int) : Prop := L[0]? = some 0 ∧ ∀ e, 1 ≤ e → e < L.length → L[e]? = some (mn ((List.range e).map fun b => ld L b + toll rows b e))
/-- stops from b on, along which the ledger's numbers come about -/
def Pth (rows : List (List Nat)) (L : List Int) (W : Nat) : Nat → List Nat → Nat → Prop
  | b, [], z => b = z
  | b, e :: r, z => b < e ∧ e ≤ W ∧ ld L b + toll rows b e = ld L e ∧ Pth rows L W e r z
structure BestOf (rows : List (List Nat)) (W : Nat) (S : List Nat) (L : List Int) (p : Int) : Prop where
  len : L.length = W + 1
  led : LedTo rows L
  pr : p = mn ((List.range (W + 1)).map fun b => ld L b + rest rows b)
  pth : ∃ z, z ≤ W ∧ Pth rows L W 0 S z ∧ ld L z + rest rows z = p
theorem pth_cost {rows : List (List Nat)} {L : List Int} {W : Nat} {z : Nat} : ∀ (S : List Nat) (b : Nat), Pth rows L W b S z → ld L b + pathC rows b S = ld L z + rest rows z
  | [], b, h => by
    have : b = z := h
    rw [this]
    rfl
  | e :: r, b, h => by
    obtain ⟨_, _, h3, h4⟩ := h
    have := pth_cost r e h4
    show ld L b + ((toll rows b e + pathC rows e r : Nat) : Int) = _
    omega
theorem path_ge {rows : List (List Nat)} {L : List Int} {W : Nat} {p : Int} (hl : L.length = W + 1) (led : LedTo rows L) (hp : ∀ b, b ≤ W → p ≤ ld L b + rest rows b) :
    ∀ (S : List Nat) (b : Nat), b ≤ W → Up b S → (∀ s ∈ S, s ≤ W) → p ≤ ld L b + pathC rows b S
  | [], b, hb, _, _ => hp b hb
  | e :: r, b, hb, hu, hs => by
    have he := hs e (by simp)
    have ih := path_ge hl led hp r e he hu.2 fun s m => hs s (List.mem_cons_of_mem _ m)
    have h1 := led.2 e (by have := hu.1; omega) (by omega)
    have h2 : ld L e ≤ ld L b + toll rows b e := by
      unfold ld
      rw [List.getD_eq_getElem?_getD, h1]
      exact mn_le (List.mem_map.mpr ⟨b, List.mem_range.mpr hu.1, rfl⟩)
    show p ≤ ld L b + ((toll rows b e + pathC rows e r : Nat) : Int)
    omega
theorem Stops.le {N : Nat → Nat} {W : Nat} : ∀ {S : List Nat} {b : Nat}, Stops N W b S → ∀ s ∈ S, s ≤ W
  | [], _, _, s, m => by cases m
  | e :: r, b, h, s, m => by
    rcases List.mem_cons.mp m with q | m
    · subst q; exact h.2.1
    · exact Stops.le h.2.2 s m
/-- no ruler presses the rows to fewer signs -/
theorem best_least {rows : List (List Nat)} {W : Nat} {S : List Nat} {L : List Int} {p : Int} (h : BestOf rows W S L p) {N : Nat → Nat} (hN : Nx N) (hw : ∀ r ∈ rows, r.length ≤ W) : p ≤ ((rows.map fun r => (prs N r 0).length).sum : Nat) := by
  obtain ⟨T, t⟩ := stops_ex hN W W 0 (by omega)
  rw [sum_prs hN hw t]
  have := path_ge (p := p) h.len h.led (fun b hb => by rw [h.pr]; exact mn_le (List.mem_map.mpr ⟨b, List.mem_range.mpr (by omega), rfl⟩)) T 0 (Nat.zero_le _) (t.up hN) t.le
  have e0 : ld L 0 = 0 := by unfold ld; rw [List.getD_eq_getElem?_getD, h.led.1]; rfl
  omega
/-- by the best stops they have just that many -/
theorem best_price {rows : List (List Nat)} {W : Nat} {S : List Nat} {L : List Int} {p : Int} (h : BestOf rows W S L p) {N : Nat → Nat} (hN : Nx N) (hw : ∀ r ∈ rows, r.length ≤ W) (hS : Stops N W 0 S) : p = ((rows.map fun r => (prs N r 0).length).sum : Nat) := by
  obtain ⟨z, _, pt, hz⟩ := h.pth
  rw [sum_prs hN hw hS]
  have := pth_cost S 0 pt
  have e0 : ld L 0 = 0 := by unfold ld; rw [List.getD_eq_getElem?_getD, h.led.1]; rfl
  omega
theorem Pth.up {rows : List (List Nat)} {L : List Int} {W z : Nat} : ∀ {S : List Nat} {b : Nat}, Pth rows L W b S z → Up b S ∧ ∀ s ∈ S, s ≤ W
  | [], _, _ => ⟨trivial, by simp⟩
  | e :: r, b, h => by
    obtain ⟨h1, h2, _, h4⟩ := h
    obtain ⟨g1, g2⟩ := Pth.up h4
    refine ⟨⟨h1, g1⟩, fun s m => ?_⟩
    rcases List.mem_cons.mp m with q | m
    · subst q; exact h2
    · exact g2 s m
/-- the stops of the ruler with these told ones and a great step -/
theorem Up.rise : ∀ {S : List Nat} {b : Nat}, Up b S → Rise (b : Int) (S.map fun (s : Nat) => (s : Int))
  | [], _, _ => trivial
  | e :: r, b, h => ⟨by have := h.1; show (b : Int) < (e : Int); omega, Up.rise h.2⟩
theorem up_mem : ∀ {S : List Nat} {b : Nat}, Up b S → ∀ s ∈ S, b < s
  | [], _, _, s, m => by cases m
  | e :: r, b, h, s, m => by
    rcases List.mem_cons.mp m with q | m
    · subst q; exact h.1
    · have := up_mem h.2 s m
      have := h.1
      omega
theorem stops_of_told {S : List Nat} {W : Nat} {st : Int} (hu : Up 0 S) (hw : ∀ s ∈ S, s ≤ W) (hst : (W : Int) < st) : Stops (nx (S.map fun (s : Nat) => (s : Int)) st) W 0 S := by
  have hR : Rise 0 (S.map fun (s : Nat) => (s : Int)) := hu.rise
  have hs : 0 < st := by omega
  -- pre: the stops behind us
  have key : ∀ (T pre : List Nat) (b : Nat), S = pre ++ T → Up b T → (∀ s ∈ pre, s ≤ b) → (pre = [] ∨ b ∈ pre) → Stops (nx (S.map fun (s : Nat) => (s : Int)) st) W b T := by
    intro T
    induction T with
    | nil =>
      intro pre b e _ hp hm
      show W < nx _ st b
      rw [List.append_nil] at e
      have h1 := nx_cast hR hs b
      have h2 : nextStop (S.map fun (s : Nat) => (s : Int)) st (b : Int) = _ := none_next (Int.natCast_nonneg b) fun t mt => by
        obtain ⟨s, ms, rfl⟩ := List.mem_map.mp mt
        have := hp s (e ▸ ms)
        omega
      have hl : lastOf (S.map fun (s : Nat) => (s : Int)) ≤ b := by
        by_cases hS : S.map (fun (s : Nat) => (s : Int)) = []
        · rw [hS, lastOf_nil]; omega
        · obtain ⟨s, ms, es⟩ := List.mem_map.mp (last_mem hS)
          have := hp s (e ▸ ms)
          omega
      have h3 := (beyond (l := lastOf (S.map fun (s : Nat) => (s : Int))) (c := b) hs hl)
      have hq : 0 ≤ ((b : Int) - lastOf (S.map fun (s : Nat) => (s : Int))) / st := Int.ediv_nonneg (by omega) (by omega)
      have h5 : st ≤ (((b : Int) - lastOf (S.map fun (s : Nat) => (s : Int))) / st + 1) * st := by
        rw [Int.add_mul]
        have := Int.mul_nonneg hq (Int.le_of_lt hs)
        omega
      have h6 := hR.last_nn
      omega
    | cons x T ih =>
      intro pre b e hu2 hp hm
      have hi : (S.map fun (s : Nat) => (s : Int))[pre.length]? = some (x : Int) := by
        rw [List.getElem?_map, e, List.getElem?_append_right (Nat.le_refl _), Nat.sub_self]
        rfl
      have h2 : nextStop (S.map fun (s : Nat) => (s : Int)) st (b : Int) = (x : Int) := by
        refine firstGt_next hR hi (fun j y hj hy => ?_) (by have := hu2.1; omega)
        rw [List.getElem?_map, e, List.getElem?_append_left hj] at hy
        cases q : pre[j]? with
        | none => rw [q] at hy; cases hy
        | some s =>
          rw [q] at hy
          have e3 : (s : Int) = y := Option.some.inj hy
          have := hp s (List.mem_of_getElem? q)
          omega
      have h1 := nx_cast hR hs b
      refine ⟨by omega, hw x (by rw [e]; simp), ih (pre ++ [x]) x (by rw [e]; simp) hu2.2 (fun s m => ?_) (.inr (by simp))⟩
      rcases List.mem_append.mp m with m | m
      · have := hp s m
        have := hu2.1
        omega
      · simp at m; omega
  exact key S [] 0 rfl hu (by simp) (.inl rfl)
/-! #### back from the last stop -/
theorem Pth.back {rows : List (List Nat)} {L : List Int} {W z c b : Nat} {S : List Nat} (h : Pth rows L W c S z) (h1 : b < c) (h2 : c ≤ W) (h3 : ld L b + toll rows b c = ld L c) : Pth rows L W b (c :: S) z := ⟨h1, h2, h3, h⟩
/-- the first place of the least -/
def fst (m : Int) : List Int → Nat
  | [] => 0
  | x :: r => if x = m then 0 else fst m r + 1
theorem fst_spec {m : Int} : ∀ {l : List Int}, m ∈ l → fst m l < l.length ∧ l[fst m l]? = some m
  | [], h => by cases h
  | x :: r, h => by
    unfold fst
    by_cases hx : x = m
    · rw [if_pos hx]
      exact ⟨by simp, by simp [hx]⟩
    · rw [if_neg hx]
      have hm : m ∈ r := by
        rcases List.mem_cons.mp h with e | q
        · exact absurd e.symm hx
        · exact q
      obtain ⟨h1, h2⟩ := fst_spec hm
      exact ⟨by simp; omega, by simpa using h2⟩
end Tb
namespace Tb
/-! ### cells, rows lined up -/
def splitJ : List Nat → List (List Nat)
  | [] => [[]]
  | s :: r => if s = 9 then [] :: splitJ r else match splitJ r with
    | [] => [[s]]
    | c :: cs => (s :: c) :: cs
def joinJ : List (List Nat) → List Nat
  | [] => []
  | [c] => c
  | c :: d :: r => c ++ 9 :: joinJ (d :: r)
theorem splitJ_ne : ∀ l : List Nat, splitJ l ≠ []
  | [] => by simp [splitJ]
  | s :: r => by
    unfold splitJ
    split
    · simp
    · cases splitJ r <;> simp
theorem joinJ_cons9 {cs : List (List Nat)} (h : cs ≠ []) : joinJ ([] :: cs) = 9 :: joinJ cs := by
  cases cs with
  | nil => exact absurd rfl h
  | cons d r => rfl
theorem joinJ_consS (s : Nat) (c : List Nat) (cs : List (List Nat)) : joinJ ((s :: c) :: cs) = s :: joinJ (c :: cs) := by
  cases cs <;> rfl
theorem join_split : ∀ l : List Nat, joinJ (splitJ l) = l
  | [] => rfl
  | s :: r => by
    have ih := join_split r
    have ne := splitJ_ne r
    unfold splitJ
    by_cases h : s = 9
    · rw [if_pos h, joinJ_cons9 ne, ih, h]
    · rw [if_neg h]
      cases e : splitJ r with
      | nil => exact absurd e ne
      | cons c cs =>
        rw [e] at ih
        show joinJ ((s :: c) :: cs) = s :: r
        rw [joinJ_consS, ih]
theorem split_no9 : ∀ (l : List Nat), ∀ c ∈ splitJ l, 9 ∉ c
  | [], c, m => by simp [splitJ] at m; subst m; simp
  | s :: r, c, m => by
    have ih := split_no9 r
    unfold splitJ at m
    by_cases h : s = 9
    · rw [if_pos h] at m
      rcases List.mem_cons.mp m with e | m
      · subst e; simp
      · exact ih c m
    · rw [if_neg h] at m
      cases e : splitJ r with
      | nil => exact absurd e (splitJ_ne r)
      | cons d ds =>
        rw [e] at m ih
        rcases List.mem_cons.mp m with q | m
        · subst q
          intro z
          rcases List.mem_cons.mp z with z | z
          · exact h z.symm
          · exact ih d (by simp) z
        · exact ih c (List.mem_cons_of_mem _ m)
/-- the cells are no longer together than the row -/
theorem split_len : ∀ (l : List Nat), (∀ c ∈ splitJ l, c.length ≤ l.length) ∧ (splitJ l).length ≤ l.length + 1
  | [] => by simp [splitJ]
  | s :: r => by
    obtain ⟨h1, h2⟩ := split_len r
    unfold splitJ
    by_cases h : s = 9
    · rw [if_pos h]
      refine ⟨fun c m => ?_, by simp; exact h2⟩
      rcases List.mem_cons.mp m with e | m
      · subst e; simp
      · have := h1 c m
        simp
        omega
    · rw [if_neg h]
      cases e : splitJ r with
      | nil => exact absurd e (splitJ_ne r)
      | cons d ds =>
        rw [e] at h1 h2
        refine ⟨fun c m => ?_, by simp at h2 ⊢; omega⟩
        rcases List.mem_cons.mp m with q | m
        · subst q
          have := h1 d (by simp)
          simp
          omega
        · have := h1 c (List.mem_cons_of_mem _ m)
          simp
          omega
/-- the greater of two, place by place -/
def mrg : List Nat → List Nat → List Nat
  | a, [] => a
  | [], b => b
  | x :: a, y :: b => max x y :: mrg a b
theorem mrg_nil (a : List Nat) : mrg a [] = a := by cases a <;> rfl
theorem nil_mrg (b : List Nat) : mrg [] b = b := by cases b <;> rfl
theorem mrg_length : ∀ (a b : List Nat), (mrg a b).length = max a.length b.length
  | a, [] => by rw [mrg_nil]; simp
  | [], y :: b => by rw [nil_mrg]; simp
  | x :: a, y :: b => by
    show (mrg a b).length + 1 = max (a.length + 1) (b.length + 1)
    rw [mrg_length a b]
    omega
theorem mrg_getD : ∀ (a b : List Nat) (k : Nat), (mrg a b).getD k 0 = max (a.getD k 0) (b.getD k 0)
  | a, [], k => by rw [mrg_nil]; simp
  | [], y :: b, k => by rw [nil_mrg]; simp
  | x :: a, y :: b, 0 => by simp [mrg]
  | x :: a, y :: b, k + 1 => by
    show (max x y :: mrg a b).getD (k + 1) 0 = _
    simp only [List.getD_cons_succ]
    exact mrg_getD a b k
/-- one more place -/
theorem mrg_snoc {a : List Nat} : ∀ {b : List Nat} {y : Nat}, mrg a (b ++ [y]) = if b.length < (mrg a b).length then (mrg a b).set b.length (max ((mrg a b).getD b.length 0) y) else mrg a b ++ [y] := by
  induction a with
  | nil =>
    intro b y
    rw [nil_mrg, nil_mrg, if_neg (Nat.lt_irrefl _)]
  | cons x a ih =>
    intro b y
    cases b with
    | nil =>
      rw [mrg_nil, if_pos (by simp)]
      show max x y :: mrg a [] = _
      rw [mrg_nil]
      simp
    | cons z b =>
      show max x z :: mrg a (b ++ [y]) = if (z :: b).length < (max x z :: mrg a b).length then (max x z :: mrg a b).set (b.length + 1) (max ((max x z :: mrg a b).getD (b.length + 1) 0) y) else max x z :: mrg a b ++ [y]
      rw [ih]
      by_cases h : b.length < (mrg a b).length
      · rw [if_pos h, if_pos (by simp; omega)]
        simp
      · rw [if_neg h, if_neg (by simp; omega)]
        rfl
/-- the lengths of a row's cells but the last -/
def lens (row : List Nat) : List Nat := ((splitJ row).dropLast).map List.length
def longest (rows : List (List Nat)) : List Nat := rows.foldl (fun a r => mrg a (lens r)) []
theorem longest_snoc (rows : List (List Nat)) (r : List Nat) : longest (rows ++ [r]) = mrg (longest rows) (lens r) := by simp [longest]
theorem foldl_mrg_getD (k : Nat) : ∀ (rows : List (List Nat)) (a : List Nat), a.getD k 0 ≤ (rows.foldl (fun a r => mrg a (lens r)) a).getD k 0 ∧ ∀ r ∈ rows, (lens r).getD k 0 ≤ (rows.foldl (fun a r => mrg a (lens r)) a).getD k 0
  | [], a => ⟨Nat.le_refl _, by simp⟩
  | r :: rs, a => by
    obtain ⟨h1, h2⟩ := foldl_mrg_getD k rs (mrg a (lens r))
    rw [mrg_getD] at h1
    rw [List.foldl_cons]
    refine ⟨by omega, fun x m => ?_⟩
    rcases List.mem_cons.mp m with e | m
    · subst e; omega
    · exact h2 x m
theorem longest_ge {rows : List (List Nat)} {r : List Nat} (h : r ∈ rows) (k : Nat) : (lens r).getD k 0 ≤ (longest rows).getD k 0 := (foldl_mrg_getD k rows []).2 r h
theorem foldl_mrg_len : ∀ (rows : List (List Nat)) (a : List Nat), a.length ≤ (rows.foldl (fun a r => mrg a (lens r)) a).length ∧ (∀ r ∈ rows, (lens r).length ≤ (rows.foldl (fun a r => mrg a (lens r)) a).length) ∧
    ((rows.foldl (fun a r => mrg a (lens r)) a).length = a.length ∨ ∃ r ∈ rows, (rows.foldl (fun a r => mrg a (lens r)) a).length = (lens r).length)
  | [], a => ⟨Nat.le_refl _, by simp, .inl rfl⟩
  | r :: rs, a => by
    obtain ⟨h1, h2, h3⟩ := foldl_mrg_len rs (mrg a (lens r))
    have e := mrg_length a (lens r)
    rw [List.foldl_cons]
    refine ⟨by omega, fun x m => ?_, ?_⟩
    · rcases List.mem_cons.mp m with q | m
      · subst q; omega
      · exact h2 x m
    · rcases h3 with h3 | ⟨x, m, h3⟩
      · by_cases c : a.length < (lens r).length
        · exact .inr ⟨r, by simp, by omega⟩
        · exact .inl (by omega)
      · exact .inr ⟨x, List.mem_cons_of_mem _ m, h3⟩
theorem longest_len {rows : List (List Nat)} {r : List Nat} (h : r ∈ rows) : (lens r).length ≤ (longest rows).length := (foldl_mrg_len rows []).2.1 r h
/-- each place has its number from some row, or is 0 -/
theorem foldl_mrg_from (k : Nat) : ∀ (rows : List (List Nat)) (a : List Nat), (rows.foldl (fun a r => mrg a (lens r)) a).getD k 0 = a.getD k 0 ∨ ∃ r ∈ rows, (rows.foldl (fun a r => mrg a (lens r)) a).getD k 0 = (lens r).getD k 0
  | [], a => .inl rfl
  | r :: rs, a => by
    rw [List.foldl_cons]
    rcases foldl_mrg_from k rs (mrg a (lens r)) with h | ⟨x, m, h⟩
    · rw [mrg_getD] at h
      by_cases c : a.getD k 0 < (lens r).getD k 0
      · exact .inr ⟨r, by simp, by omega⟩
      · exact .inl (by omega)
    · exact .inr ⟨x, List.mem_cons_of_mem _ m, h⟩
/-- the cell stops from b on -/
def cst (gap : Nat) : Nat → List Nat → List Nat
  | _, [] => []
  | b, l :: r => (b + gap + l) :: cst gap (b + gap + l) r
theorem cst_length (gap : Nat) : ∀ (l : List Nat) (b : Nat), (cst gap b l).length = l.length
  | [], _ => rfl
  | x :: r, b => by show (cst gap _ r).length + 1 = _; rw [cst_length gap r]; rfl
theorem cst_up {gap : Nat} (h : 0 < gap) : ∀ (l : List Nat) (b : Nat), Up b (cst gap b l)
  | [], _ => trivial
  | x :: r, b => ⟨by omega, cst_up h r _⟩
/-- the stop ahead of place k (b for the first) -/
def ahead (gap : Nat) (b : Nat) (l : List Nat) (k : Nat) : Nat := (b :: cst gap b l).getD k 0
theorem cst_at (gap : Nat) : ∀ (l : List Nat) (b k : Nat), k < l.length → (cst gap b l)[k]? = some (ahead gap b l k + gap + l.getD k 0)
  | [], b, k, h => by simp at h
  | x :: r, b, 0, _ => by simp [cst, ahead]
  | x :: r, b, k + 1, h => by
    have := cst_at gap r (b + gap + x) k (by simpa using h)
    show (cst gap (b + gap + x) r)[k]? = _
    rw [this]
    simp [ahead, cst]
theorem cst_take (gap : Nat) : ∀ (l : List Nat) (b k : Nat), cst gap b (l.take k) = (cst gap b l).take k
  | [], b, k => by simp [cst]
  | x :: r, b, 0 => by simp [cst]
  | x :: r, b, k + 1 => by
    show (b + gap + x) :: cst gap (b + gap + x) (r.take k) = (b + gap + x) :: (cst gap (b + gap + x) r).take k
    rw [cst_take gap r]
theorem cst_snoc (gap : Nat) : ∀ (l : List Nat) (b y : Nat), cst gap b (l ++ [y]) = cst gap b l ++ [((b :: cst gap b l).getLast?.getD 0) + gap + y]
  | [], b, y => rfl
  | x :: r, b, y => by
    show (b + gap + x) :: cst gap (b + gap + x) (r ++ [y]) = (b + gap + x) :: (cst gap (b + gap + x) r ++ _)
    rw [cst_snoc gap r]
    congr 3
/-- a row's cells fit between the stops S, the first of them ending at e -/
def Fit : Nat → List (List Nat) → List Nat → Prop
  | _, [], _ => True
  | _, _ :: _, [] => False
  | e, c :: r, s :: S => e < s ∧ Fit (s + c.length) r S
def tails : List (List Nat) → List Nat
  | [] => []
  | c :: r => 9 :: (c ++ tails r)
theorem joinJ_tails : ∀ (c : List Nat) (r : List (List Nat)), joinJ (c :: r) = c ++ tails r
  | c, [] => by simp [joinJ, tails]
  | c, d :: r => by show c ++ 9 :: joinJ (d :: r) = c ++ 9 :: (d ++ tails r); rw [joinJ_tails d r]
def dueF : List Nat → List (List Nat) → List Nat → List Nat
  | a, c :: r, s :: S => dueF (a ++ List.replicate (s - a.length) 32 ++ c) r S
  | a, _, _ => a
theorem laid_plain {N : Nat → Nat} : ∀ (c : List Nat) (b : Nat), 9 ∉ c → laid N b c = c ∧ wid N b c = b + c.length
  | [], b, _ => ⟨rfl, rfl⟩
  | s :: c, b, h => by
    have hs : s ≠ 9 := fun e => h (by rw [e]; simp)
    have ha : adv N b s = b + 1 := by unfold adv; rw [if_neg hs]
    obtain ⟨h1, h2⟩ := laid_plain (N := N) c (b + 1) fun m => h (List.mem_cons_of_mem _ m)
    unfold laid wid
    rw [if_neg hs, ha, h1, h2]
    exact ⟨rfl, by simp; omega⟩
/-- between two told stops the next one is the greater -/
def Told (N : Nat → Nat) : Nat → List Nat → Prop
  | _, [] => True
  | b, s :: S => (∀ e, b ≤ e → e < s → N e = s) ∧ Told N s S
theorem due_laid {N : Nat → Nat} : ∀ (r : List (List Nat)) (S : List Nat) (a : List Nat) (b : Nat), (∀ c ∈ r, 9 ∉ c) → b ≤ a.length → Told N b S → Fit a.length r S → a ++ laid N a.length (tails r) = dueF a r S
  | [], S, a, b, _, _, _, _ => by simp [tails, laid, dueF]
  | c :: r, [], a, b, _, _, _, f => f.elim
  | c :: r, s :: S, a, b, h9, hb, ht, f => by
    obtain ⟨f1, f2⟩ := f
    have eN := ht.1 a.length hb f1
    obtain ⟨l1, l2⟩ := laid_plain (N := N) c s (h9 c (by simp))
    have ll : (a ++ List.replicate (s - a.length) 32 ++ c).length = s + c.length := by simp; omega
    have ih := due_laid r S (a ++ List.replicate (s - a.length) 32 ++ c) s (fun d m => h9 d (List.mem_cons_of_mem _ m)) (by omega) ht.2 (by rw [ll]; exact f2)
    show a ++ ((if (9 : Nat) = 9 then List.replicate (N a.length - a.length) 32 else [9]) ++ laid N (adv N a.length 9) (c ++ tails r)) = dueF (a ++ List.replicate (s - a.length) 32 ++ c) r S
    rw [← ih, ll]
    unfold adv
    rw [if_pos rfl, if_pos rfl, eN, laid_append, l1, l2]
    simp [List.append_assoc]
theorem dueF_len : ∀ (r : List (List Nat)) (S : List Nat) (a : List Nat), Fit a.length r S → (dueF a r S).length = (a.length :: S).getD r.length 0 + (if r = [] then 0 else (r.getLast?.getD []).length)
  | [], S, a, _ => by simp [dueF]
  | c :: r, [], a, f => f.elim
  | c :: r, s :: S, a, f => by
    obtain ⟨f1, f2⟩ := f
    have ll : (a ++ List.replicate (s - a.length) 32 ++ c).length = s + c.length := by simp; omega
    show (dueF (a ++ List.replicate (s - a.length) 32 ++ c) r S).length = _
    rw [dueF_len r S _ (by rw [ll]; exact f2), ll]
    cases r with
    | nil => simp
    | cons d r' => simp
end Tb
namespace Rl
open PySem L2
def top (i : Nat) : Stmt := PySem.Challenge.pw_tabstops_k04_pressed_rows.main.body.getD i (.Pass ⟨0, 0, 0, 0⟩)
end Rl
/-! ### tabstops.rulers -/
namespace Rl
open PySem L2 Tb
local macro_rules | `(tactic| walk_at "rd") => `(tactic| repeat (first | refine ⟨_, _, rfl, rfl, ⟨by decide, by decide, by decide⟩, ?_⟩ | refine ⟨_, _, rfl, rfl, ⟨by decide, by decide⟩, ?_⟩ | refine ⟨_, _, rfl, rfl, (by show (0 : Int) < _; decide), ?_⟩ | refine ⟨_, _, rfl, rfl, ?_⟩ | refine ⟨_, rfl, ?_⟩ | refine ⟨(rfl : scal _ _ = true), ?_⟩))
abbrev s_check_told : Stmt := top 14
theorem sc_check_told : FnScope ["told", "ahead", "stop"] ["told"] (defScope s_check_told) := ⟨rfl, rfl, rfl, by decide +kernel, rfl, by decide +kernel, by decide +kernel⟩
abbrev s_check_step : Stmt := top 15
theorem sc_check_step : FnScope ["step"] ["step"] (defScope s_check_step) := ⟨rfl, rfl, rfl, by decide +kernel, rfl, by decide +kernel, by decide +kernel⟩
abbrev s_least_greater : Stmt := top 16
theorem sc_least_greater : FnScope ["rising", "column", "low", "high", "middle"] ["rising", "column"] (defScope s_least_greater) := ⟨rfl, rfl, rfl, by decide +kernel, rfl, by decide +kernel, by decide +kernel⟩
abbrev s_Ruler___init__ : Stmt := inClass (top 17) 0
theorem sc_Ruler___init__ : FnScope ["self", "told", "step"] ["self", "told", "step"] (defScope s_Ruler___init__) := ⟨rfl, rfl, rfl, by decide +kernel, rfl, by decide +kernel, by decide +kernel⟩
abbrev s_Ruler_next_stop : Stmt := inClass (top 17) 1
theorem sc_Ruler_next_stop : FnScope ["self", "column", "steps"] ["self", "column"] (defScope s_Ruler_next_stop) := ⟨rfl, rfl, rfl, by decide +kernel, rfl, by decide +kernel, by decide +kernel⟩
/-- the numbers that we reckon with stay below this one -/
def BIG : Int := 2 ^ 2000
theorem big_pos : (10 : Int) ^ 70 < BIG := by unfold BIG; decide +kernel
theorem fits {x : Int} (h0 : 0 ≤ x) (h : x ≤ BIG) : x.natAbs < 2 ^ 1048576 := by
  have e : BIG = ((2 ^ 2000 : Nat) : Int) := by unfold BIG; decide +kernel
  rw [e] at h
  have h1 : x.natAbs ≤ 2 ^ 2000 := by omega
  exact Nat.lt_of_le_of_lt h1 (Nat.pow_lt_pow_right (by decide) (by decide))
theorem fitsL {x : Int} (h0 : 0 < x) (h : x ≤ BIG) : x.natAbs.log2 < 9000 := by
  have e : BIG = ((2 ^ 2000 : Nat) : Int) := by unfold BIG; decide +kernel
  rw [e] at h
  have h1 : x.natAbs ≤ 2 ^ 2000 := by omega
  have h2 : x.natAbs ≠ 0 := by omega
  exact (Nat.log2_lt h2).mpr (Nat.lt_of_le_of_lt h1 (Nat.pow_lt_pow_right (by decide) (by decide)))
/-- a ruler's attributes, in the order in which they are stored -/
def flds (tp : Addr) (st la : Int) : List (Str × V) := putF "last" (.int la) (putF "step" (.int st) (putF "told" (.ref tp) []))
theorem n_ls : ¬ (("last" : Str) = "step") := by decide +kernel
theorem n_lt : ¬ (("last" : Str) = "told") := by decide +kernel
theorem n_st : ¬ (("step" : Str) = "told") := by decide +kernel
theorem n_sl : ¬ (("step" : Str) = "last") := by decide +kernel
theorem n_tl : ¬ (("told" : Str) = "last") := by decide +kernel
theorem n_ts : ¬ (("told" : Str) = "step") := by decide +kernel
theorem f_told (tp : Addr) (st la : Int) : (flds tp st la).lookup ("told" : Str) = some (.ref tp) := by
  unfold flds
  rw [lookup_putF, if_neg n_tl, lookup_putF, if_neg n_ts, lookup_putF, if_pos rfl]
theorem f_step (tp : Addr) (st la : Int) : (flds tp st la).lookup ("step" : Str) = some (.int st) := by
  unfold flds
  rw [lookup_putF, if_neg n_sl, lookup_putF, if_pos rfl]
theorem f_last (tp : Addr) (st la : Int) : (flds tp st la).lookup ("last" : Str) = some (.int la) := by
  unfold flds
  rw [lookup_putF, if_pos rfl]
theorem f_no (tp : Addr) (st la : Int) {m : Str} (h1 : ¬ m = "last") (h2 : ¬ m = "step") (h3 : ¬ m = "told") : (flds tp st la).lookup m = none := by
  unfold flds
  rw [lookup_putF, if_neg h1, lookup_putF, if_neg h2, lookup_putF, if_neg h3]
  all_goals rfl
/-- a ruler stands at p -/
def RulerAt (C : Addr) (H : Hp) (p : Addr) (ts : List Int) (st : Int) : Prop :=
  (∃ dx tp, H p = some (.ins C dx (flds tp st (lastOf ts))) ∧ H tp = some (.tup (ts.map V.int))) ∧ Rise 0 ts ∧ 0 < st ∧ st < BIG ∧ lastOf ts < BIG
theorem RulerAt.same {C : Addr} {H H' : Hp} {p : Addr} {ts : List Int} {st : Int} (r : RulerAt C H p ts st) (e : Same H H') : RulerAt C H' p ts st := by
  obtain ⟨⟨dx, tp, h1, h2⟩, r⟩ := r
  exact ⟨⟨dx, tp, e _ _ h1, e _ _ h2⟩, r⟩
/-- what of the text a ruler's class must have -/
structure RTxt (K : PySem.W.Frag) (mg : Str → Option Value) (C : Addr) : Prop where
  cl : Cls K C
  nT : NoAttr K C "told"
  nS : NoAttr K C "step"
  nL : NoAttr K C "last"
/-- the built-in names that are used stand free at the top -/
structure Blt (K : PySem.W.Frag) (mg : Str → Option Value) : Prop where
  len : mg "len" = none
  tuple : mg "tuple" = none
section
variable {P : Program} {w : World} {K : PySem.W.Frag} {mg : Str → Option Value} {base : Heap}
def sp_check_told (K : PySem.W.Frag) : Sp := fun vs H Q _ => ∃ (a : Addr) (ts : List Int), vs = [.ref a] ∧ SqL K H a (ts.map V.int) ∧ Rise 0 ts ∧ Q .non H
theorem take_lt {ts : List Int} {i : Nat} {t : Int} (hr : Rise 0 ts) (h : ts[i]? = some t) : lastOf (ts.take i) < t := by
  by_cases e : ts.take i = []
  · rw [e]
    exact hr.mem t (List.mem_of_getElem? h)
  · obtain ⟨j, hj⟩ := List.getElem?_of_mem (last_mem e)
    have hlt : j < (ts.take i).length := (List.getElem?_eq_some_iff.mp hj).1
    rw [List.length_take] at hlt
    rw [List.getElem?_take_of_lt (by omega)] at hj
    exact hr.get_lt (by omega) hj h
theorem take_last {ts : List Int} {i : Nat} {t : Int} (h : ts[i]? = some t) : lastOf (ts.take (i + 1)) = t := by
  rw [List.take_add_one, h]
  exact lastOf_snoc _ _
theorem d_check_told (h : Has K mg "check_told" s_check_told ["told"]) : Def P w K mg base "check_told" 1 ["told"] (sp_check_told K) := by
  obtain ⟨f, fd, F, m, b⟩ := h
  refine ⟨f, fd, m, F.kp, b, F.ok sc_check_told (fun vs H Q E h => ?_) (fun cdv A outer s H vs Q E hr h => ?_)⟩
  · obtain ⟨a, ts, rfl, _⟩ := h
    rfl
  obtain ⟨a, ts, rfl, hS, hR, k⟩ := h
  refine ⟨_, (pss_cons (ps_set (i := 1) sc_check_told.nd rfl (Or.inl rfl) pe_int)
      (pss_one (ps_for PassesOwn.never rfl (pi_list (pv 0)) (pg_name (i := 2) sc_check_told.nd rfl (Or.inl rfl))
        (pss_cons (ps_if (pt_cmpR op_le (pv 2) (pv 1) (nomark _))
        (pss_one ps_never)
        pss_nil)
      (pss_one (ps_set (i := 1) sc_check_told.nd rfl (Or.inl rfl) (pv 2))))))), ?_⟩
  refine ⟨_, rfl, a, rfl, ⟨_, hS⟩, for_list (K := K) (a := a) (xs := ts.map V.int) (fun i σ H2 => H2 = H ∧ ∃ v, σ = [some (.ref a), some (.int (lastOf (ts.take i))), v]) ⟨rfl, none, rfl⟩ (fun i σ H2 _ ⟨e, _⟩ => e ▸ hS) ?_ ?_⟩
  · rintro i y σ H2 hi ⟨rfl, v, rfl⟩
    obtain ⟨t, rfl, ht⟩ := ints_at hi
    walk_at "rd"
    have lt := take_lt hR ht
    refine ite2 (fun c => ?_) (fun c => ?_)
    · have c' : t ≤ lastOf (ts.take i) := of_decide_eq_true c
      omega
    · walk_at "rd"
      exact ⟨rfl, some (.int t), by rw [take_last ht]; rfl⟩
  · rintro σ H2 ⟨rfl, v, rfl⟩
    exact k
def sp_check_step : Sp := fun vs H Q _ => ∃ st : Int, vs = [.int st] ∧ 0 < st ∧ Q .non H
theorem d_check_step (h : Has K mg "check_step" s_check_step ["step"]) : Def P w K mg base "check_step" 1 ["step"] sp_check_step := by
  obtain ⟨f, fd, F, m, b⟩ := h
  refine ⟨f, fd, m, F.kp, b, F.ok sc_check_step (fun vs H Q E h => ?_) (fun cdv A outer s H vs Q E hr h => ?_)⟩
  · obtain ⟨st, rfl, _⟩ := h
    rfl
  obtain ⟨st, rfl, h0, k⟩ := h
  refine ⟨_, (pss_one (ps_if (pt_cmpR op_lt (pv 0) pe_int (nomark _))
        (pss_one ps_never)
        pss_nil)), ?_⟩
  walk_at "rd"
  refine ite2 (fun c => ?_) (fun c => ?_)
  · have c' : st < 1 := of_decide_eq_true c
    omega
  · exact k
def sp_least (K : PySem.W.Frag) : Sp := fun vs H Q _ => ∃ (a : Addr) (ts : List Int) (c : Int), vs = [.ref a, .int c] ∧ SqT K H a (ts.map V.int) ∧ Rise 0 ts ∧ c < lastOf ts ∧ ts ≠ [] ∧ Q (.int (firstGt c ts)) H
theorem d_least_greater (B : Blt K mg) (h : Has K mg "least_greater" s_least_greater ["rising", "column"]) : Def P w K mg base "least_greater" 1 ["rising", "column"] (sp_least K) := by
  obtain ⟨f, fd, F, m, b⟩ := h
  refine ⟨f, fd, m, F.kp, b, F.ok sc_least_greater (fun vs H Q E h => ?_) (fun cdv A outer s H vs Q E hr h => ?_)⟩
  · obtain ⟨a, ts, c, rfl, _⟩ := h
    rfl
  obtain ⟨a, ts, c, rfl, hS, hR, hc, hne, k⟩ := h
  refine ⟨_, (pss_cons (ps_set (i := 2) sc_least_greater.nd rfl (Or.inl rfl) pe_int)
      (pss_cons (ps_set (i := 3) sc_least_greater.nd rfl (Or.inl rfl) (pe_op op_sub (pe_callB call_len_seq rfl B.len bt_len (pa_cons (pv 0) pa_nil)) pe_int))
      (pss_cons (ps_while PassesOwn.never (pt_cmpR op_lt (pv 2) (pv 3) (nomark _))
        (pss_cons (ps_set (i := 4) sc_least_greater.nd rfl (Or.inl rfl) (pe_op op_fdiv (pe_op op_add (pv 2) (pv 3)) pe_int))
      (pss_one (ps_if (pt_cmpR op_gt (pe_ix ix_tup (pv 0) (pv 4) (fun _ _ => rfl)) (pv 1) (nomark _))
        (pss_one (ps_set (i := 3) sc_least_greater.nd rfl (Or.inl rfl) (pv 4)))
        (pss_one (ps_set (i := 2) sc_least_greater.nd rfl (Or.inl rfl) (pe_op op_add (pv 4) pe_int)))))))
      (pss_one (ps_ret (pe_ix ix_tup (pv 0) (pv 2) (fun _ _ => rfl))))))), ?_⟩
  have hl : (ts.map V.int).length = ts.length := List.length_map _
  have hpos : 0 < ts.length := List.length_pos_iff.mpr hne
  refine ⟨_, rfl, a, _, rfl, .inr hS, ?_⟩
  walk_at "rd"
  refine ⟨fun m σ H2 => H2 = H ∧ ∃ (lo hi : Nat) (v : Option V), σ = [some (.ref a), some (.int c), some (.int lo), some (.int hi), v] ∧ m = hi - lo ∧ lo ≤ hi ∧ hi < ts.length ∧ (∀ (j : Nat) x, j < lo → ts[j]? = some x → x ≤ c) ∧ (∀ x, ts[hi]? = some x → c < x),
    ⟨_, rfl, 0, ts.length - 1, none, ?_, rfl, Nat.zero_le _, by omega, fun j x hj => absurd hj (Nat.not_lt_zero _), fun x hx => ?_⟩, ?_⟩
  · rw [hl]
    have e : ((ts.length : Nat) : Int) - 1 = ((ts.length - 1 : Nat) : Int) := by omega
    show [some (V.ref a), some (V.int c), some (V.int 0), some (V.int (((ts.length : Nat) : Int) - 1)), none] = _
    rw [e]
    rfl
  · have : lastOf ts = x := by
      unfold lastOf
      rw [List.getLastD_eq_getLast?, List.getLast?_eq_getElem?, hx]
      rfl
    omega
  · rintro m σ H2 ⟨rfl, lo, hi, v, rfl, rfl, h1, h2, h3, h4⟩
    walk_at "rd"
    refine ite2 (fun q => ?_) (fun q => ?_)
    · have q' : (lo : Int) < (hi : Int) := of_decide_eq_true q
      refine ⟨fun σ' H' => ∃ m', m' < hi - lo ∧ H' = H2 ∧ ∃ (lo hi : Nat) (v : Option V), σ' = [some (.ref a), some (.int c), some (.int lo), some (.int hi), v] ∧ m' = hi - lo ∧ lo ≤ hi ∧ hi < ts.length ∧ (∀ (j : Nat) x, j < lo → ts[j]? = some x → x ≤ c) ∧ (∀ x, ts[hi]? = some x → c < x), fun σ' H' z => z, ?_⟩
      walk_at "rd"
      have em : ((lo : Int) + (hi : Int)) / 2 = (((lo + hi) / 2 : Nat) : Int) := by omega
      have hm : (lo + hi) / 2 < ts.length := by omega
      refine ⟨a, _, _, .int ts[(lo + hi) / 2], rfl, rfl, hS, ?_, ?_⟩
      · show atI (ts.map V.int) (((lo : Int) + (hi : Int)) / 2) = _
        rw [em]
        exact at_ints (List.getElem?_eq_getElem hm)
      walk_at "rd"
      refine ite2 (fun r => ?_) (fun r => ?_)
      · have r' : c < ts[(lo + hi) / 2] := of_decide_eq_true r
        walk_at "rd"
        refine ⟨(lo + hi) / 2 - lo, by omega, rfl, lo, (lo + hi) / 2, some (.int (((lo : Int) + (hi : Int)) / 2)), ?_, rfl, by omega, by omega, h3, fun x hx => ?_⟩
        · rw [← em]
          rfl
        · rw [List.getElem?_eq_getElem hm] at hx
          have := Option.some.inj hx
          omega
      · have r' : ¬ c < ts[(lo + hi) / 2] := of_decide_eq_false (Bool.eq_false_iff.mpr r)
        walk_at "rd"
        refine ⟨hi - ((lo + hi) / 2 + 1), by omega, rfl, (lo + hi) / 2 + 1, hi, some (.int (((lo : Int) + (hi : Int)) / 2)), ?_, rfl, by omega, h2, fun j x hj hx => ?_, h4⟩
        · have e2 : ((((lo + hi) / 2 + 1 : Nat)) : Int) = ((lo : Int) + (hi : Int)) / 2 + 1 := by omega
          rw [e2]
          rfl
        · rcases Nat.lt_or_eq_of_le (Nat.le_of_lt_succ hj) with z | z
          · have := hR.get_lt z hx (List.getElem?_eq_getElem hm)
            omega
          · rw [z, List.getElem?_eq_getElem hm] at hx
            have := Option.some.inj hx
            omega
    · have q' : ¬ (lo : Int) < (hi : Int) := of_decide_eq_false (Bool.eq_false_iff.mpr q)
      have e : lo = hi := by omega
      subst e
      walk_at "rd"
      refine ⟨a, _, _, .int ts[lo], rfl, rfl, hS, at_ints (List.getElem?_eq_getElem h2), ?_⟩
      have e := firstGt_at hR (List.getElem?_eq_getElem h2) (h4 _ (List.getElem?_eq_getElem h2)) h3
      rw [← e]
      exact k
/-- Ruler(told, step) as it is made -/
def sp_init (K : PySem.W.Frag) (C : Addr) : Sp := fun vs H Q _ => ∃ (p dx a : Addr) (ts : List Int) (st : Int), vs = [.ref p, .ref a, .int st] ∧ H p = some (.ins C dx []) ∧ H a = some (.lst (ts.map V.int)) ∧ Rise 0 ts ∧ 0 < st ∧ st < BIG ∧ lastOf ts < BIG ∧
  ∀ H', RulerAt C H' p ts st → (∀ b o, H b = some o → b ≠ p → H' b = some o) → Q .non H'
theorem k_init {f C : Addr} {fd : FuncData} {ds : List Value} (B : Blt K mg) (T : RTxt K mg C) (F : FunD K "__init__" "Ruler.__init__" s_Ruler___init__ ds f fd) (D_check_told : Def P w K mg base "check_told" 1 ["told"] (sp_check_told K)) (D_check_step : Def P w K mg base "check_step" 1 ["step"] sp_check_step) :
    FnOk P w K mg base CX0 2 f fd ["self", "told", "step"] (sp_init K C) := by
  refine F.ok sc_Ruler___init__ (fun vs H Q E h => ?_) (fun cdv A outer s H vs Q E hr h => ?_)
  · obtain ⟨p, dx, a, ts, st, rfl, _⟩ := h
    rfl
  obtain ⟨p, dx, a, ts, st, rfl, hp, hS, hR, h0, hb1, hb2, k⟩ := h
  refine ⟨_, (pss_cons (ps_expr (pe_def D_check_told (hr.mono (by decide)) (pa_cons (pv 1) pa_nil)))
      (pss_cons (ps_expr (pe_def D_check_step (hr.mono (by decide)) (pa_cons (pv 2) pa_nil)))
      (pss_cons (ps_fld (pv 0) (pe_callTy call_tuple_of rfl B.tuple bt_tuple (pa_cons (pv 1) pa_nil)) rfl)
      (pss_cons (ps_fld (pv 0) (pv 2) rfl)
      (pss_one (ps_fld (pv 0) (pe_ifExp (pt_truth (pv 1) (fun _ => rfl)) (pe_ix ix_list (pv 1) (pe_un un_neg pe_int) (fun _ _ => rfl)) pe_int) rfl)))))), ?_⟩
  refine ⟨_, rfl, a, ts, rfl, SqL.of hS, hR, ?_⟩
  refine ⟨_, rfl, st, rfl, h0, ?_⟩
  refine ⟨_, rfl, a, _, rfl, .inl ⟨SqL.of hS, fun tp htp => ?_⟩⟩
  have npt : p ≠ tp := ne_of_none hp htp
  have nap : a ≠ p := ne_of hS hp (by intro z; cases z)
  have s1 : Same H (upd H tp (.tup (ts.map V.int))) := same_upd htp
  refine ⟨_, rfl, p, C, dx, _, rfl, s1 _ _ hp, T.cl, T.nT, (by show 0 < 1000; decide), ?_⟩
  refine ⟨_, rfl, _, rfl, p, C, dx, _, rfl, upd_same, T.cl, T.nS, Nat.lt_of_le_of_lt (length_putF _ _ _) (by decide), ?_⟩
  have l3 : (putF "step" (.int st) (putF "told" (.ref tp) [])).length < 1000 := Nat.lt_of_le_of_lt (length_putF _ _ _) (Nat.lt_of_le_of_lt (Nat.succ_le_succ (length_putF _ _ _)) (by decide))
  have ha : (upd (upd (upd H tp (.tup (ts.map V.int))) p (.ins C dx (putF "told" (.ref tp) []))) p (.ins C dx (putF "step" (.int st) (putF "told" (.ref tp) [])))) a = some (.lst (ts.map V.int)) := by
    rw [upd_ne nap, upd_ne nap]
    exact s1 _ _ hS
  have fin : Q .non (upd (upd (upd (upd H tp (.tup (ts.map V.int))) p (.ins C dx (putF "told" (.ref tp) []))) p (.ins C dx (putF "step" (.int st) (putF "told" (.ref tp) [])))) p (.ins C dx (flds tp st (lastOf ts)))) := by
    refine k _ ⟨⟨dx, tp, upd_same, by rw [upd_ne npt.symm, upd_ne npt.symm, upd_ne npt.symm, upd_same]⟩, hR, h0, hb1, hb2⟩ fun b o e hb => ?_
    rw [upd_ne hb, upd_ne hb, upd_ne hb]
    exact s1 _ _ e
  refine ⟨_, rfl, _, .inl ⟨_, SqL.of ha, rfl⟩, ?_⟩
  cases ts with
  | nil =>
    refine iteF ?_
    refine ⟨_, rfl, p, C, dx, _, rfl, upd_same, T.cl, T.nL, l3, ?_⟩
    exact fin
  | cons t r =>
    refine iteT ?_
    refine ⟨_, rfl, _, rfl, a, _, _, .int (lastOf (t :: r)), rfl, rfl, SqL.of ha, at_last ?_, ?_⟩
    · rw [List.getLast?_map]
      unfold lastOf
      rw [List.getLastD_eq_getLast?]
      cases e : (t :: r).getLast? with
      | none => simp at e
      | some z => rfl
    · refine ⟨_, rfl, p, C, dx, _, rfl, upd_same, T.cl, T.nL, l3, ?_⟩
      exact fin
def sp_next (C : Addr) : Sp := fun vs H Q _ => ∃ (p : Addr) (ts : List Int) (st c : Int), vs = [.ref p, .int c] ∧ RulerAt C H p ts st ∧ 0 ≤ c ∧ c < BIG ∧ Q (.int (nextStop ts st c)) H
theorem d_next {C : Addr} (B : Blt K mg) (T : RTxt K mg C) (h : HasM K C "next_stop" "Ruler.next_stop" s_Ruler_next_stop ["self", "column"]) (D_least_greater : Def P w K mg base "least_greater" 1 ["rising", "column"] (sp_least K)) :
    MDef P w K mg base C "next_stop" 2 ["self", "column"] (sp_next C) := by
  obtain ⟨f, fd, F, m, b⟩ := h
  refine ⟨T.cl, f, fd, m, b, F.ok sc_Ruler_next_stop (fun vs H Q E h => ?_) (fun cdv A outer s H vs Q E hr h => ?_)⟩
  · obtain ⟨p, ts, st, c, rfl, _⟩ := h
    rfl
  obtain ⟨p, ts, st, c, rfl, ⟨⟨dx, tp, hp, htp⟩, hR, h0, hb1, hb2⟩, hc, hcb, k⟩ := h
  refine ⟨_, (pss_cons (ps_if (pt_cmpR op_lt (pv 1) (pe_fld (pv 0) rfl) (nomark _))
        (pss_one (ps_ret (pe_def D_least_greater (hr.mono (by decide)) (pa_cons (pe_fld (pv 0) rfl) (pa_cons (pv 1) pa_nil)))))
        pss_nil)
      (pss_cons (ps_set (i := 2) sc_Ruler_next_stop.nd rfl (Or.inl rfl) (pe_op op_add (pe_op op_fdivB (pe_op op_sub (pv 1) (pe_fld (pv 0) rfl)) (pe_fld (pv 0) rfl)) pe_int))
      (pss_one (ps_ret (pe_op op_add (pe_fld (pv 0) rfl) (pe_op op_mulB (pv 2) (pe_fld (pv 0) rfl))))))), ?_⟩
  have fl : ∀ R : V → Hp → Prop, R (.int (lastOf ts)) H → tFld K (tVar 0) "last" [some (.ref p), some (.int c), none] H R := fun R q => ⟨_, rfl, p, C, dx, _, _, rfl, hp, T.cl, T.nL, f_last _ _ _, q⟩
  refine ⟨_, rfl, _, rfl, p, C, dx, _, _, rfl, hp, T.cl, T.nL, f_last _ _ _, _, _, rfl, rfl, _, rfl, ?_⟩
  refine ite2 (fun q => ?_) (fun q => ?_)
  · have q' : c < lastOf ts := of_decide_eq_true q
    have hne : ts ≠ [] := fun e => by subst e; rw [lastOf_nil] at q'; omega
    refine ⟨_, rfl, p, C, dx, _, _, rfl, hp, T.cl, T.nT, f_told _ _ _, _, rfl, tp, ts, c, rfl, SqT.of htp, hR, q', hne, ?_⟩
    have e : nextStop ts st c = firstGt c ts := by unfold nextStop; rw [if_pos q']
    rw [← e]
    exact k
  · have q' : ¬ c < lastOf ts := of_decide_eq_false (Bool.eq_false_iff.mpr q)
    have hq0 : 0 ≤ (c - lastOf ts) / st := Int.ediv_nonneg (by omega) (by omega)
    have hq1 : (c - lastOf ts) / st ≤ c - lastOf ts := Int.ediv_le_self st (by omega)
    have hln := hR.last_nn
    refine ⟨_, rfl, _, rfl, p, C, dx, _, _, rfl, hp, T.cl, T.nL, f_last _ _ _, _, _, rfl, rfl, _, rfl, p, C, dx, _, _, rfl, hp, T.cl, T.nS, f_step _ _ _, _, _, rfl, rfl, ⟨h0, fitsL h0 (Int.le_of_lt hb1)⟩, _, _, rfl, rfl, ?_⟩
    refine ⟨_, rfl, p, C, dx, _, _, rfl, hp, T.cl, T.nL, f_last _ _ _, _, rfl, _, rfl, p, C, dx, _, _, rfl, hp, T.cl, T.nS, f_step _ _ _, _, _, rfl, rfl, ⟨fits (by omega) (by omega), fits (by omega) (by omega)⟩, _, _, rfl, rfl, ?_⟩
    have e : nextStop ts st c = lastOf ts + ((c - lastOf ts) / st + 1) * st := by unfold nextStop; rw [if_neg q']
    rw [e] at k
    exact k
end
end Rl
/-! ### tabstops.rulers, where it refuses -/
namespace Rl
open PySem L2 Tb
local macro_rules | `(tactic| walk_at "rd") => `(tactic| repeat (first | refine ⟨_, _, rfl, rfl, ⟨by decide, by decide, by decide⟩, ?_⟩ | refine ⟨_, _, rfl, rfl, ⟨by decide, by decide⟩, ?_⟩ | refine ⟨_, _, rfl, rfl, (by show (0 : Int) < _; decide), ?_⟩ | refine ⟨_, _, rfl, rfl, ?_⟩ | refine ⟨_, rfl, ?_⟩ | refine ⟨(rfl : scal _ _ = true), ?_⟩))
/-- an exception class of the text -/
structure XB (K : PySem.W.Frag) (mg : Str → Option Value) (nm : Str) (C : Addr) : Prop where
  x : XIn K C
  m : mg nm = some (.ref C)
section
variable {P : Program} {w : World} {K : PySem.W.Frag} {mg : Str → Option Value} {base : Heap}
theorem rise_take {ts : List Int} (h : ∀ (i : Nat) t, ts[i]? = some t → lastOf (ts.take i) < t) : Rise 0 ts := by
  have g : ∀ n, n ≤ ts.length → Rise 0 (ts.take n) := by
    intro n
    induction n with
    | zero => intro _; rw [List.take_zero]; trivial
    | succ n ih =>
      intro hn
      have hl : n < ts.length := hn
      have e : ts[n]? = some ts[n] := List.getElem?_eq_getElem hl
      rw [List.take_add_one, e]
      exact (ih (Nat.le_of_lt hl)).snoc0 (h n _ e)
  have := g ts.length (Nat.le_refl _)
  rw [List.take_length] at this
  exact this
def sp_check_toldX (K : PySem.W.Frag) (Cb : Addr) : Sp := fun vs H Q E => ∃ (a : Addr) (ts : List Int), vs = [.ref a] ∧ SqL K H a (ts.map V.int) ∧ (Rise 0 ts → Q .non H) ∧ (¬ Rise 0 ts → E (.ref Cb) none H)
theorem x_check_told {C_BadStops : Addr} (XB_BadStops : XB K mg "BadStops" C_BadStops) (h : Has K mg "check_told" s_check_told ["told"]) : DefX P w K mg base "check_told" 1 ["told"] (sp_check_toldX K C_BadStops) := by
  obtain ⟨f, fd, F, m, b⟩ := h
  refine ⟨f, fd, m, F.kp, b, F.okX sc_check_told (fun vs H Q E h => ?_) (fun cdv A outer s H vs Q E hr h => ?_)⟩
  · obtain ⟨a, ts, rfl, _⟩ := h
    rfl
  obtain ⟨a, ts, rfl, hS, hY, hE⟩ := h
  refine ⟨_, (pss_cons (ps_set (i := 1) sc_check_told.nd rfl (Or.inl rfl) pe_int)
      (pss_one (ps_for PassesOwn.leaving rfl (pi_list (pv 0)) (pg_name (i := 2) sc_check_told.nd rfl (Or.inl rfl))
        (pss_cons (ps_if (pt_cmpR op_le (pv 2) (pv 1) (nomark _))
        (pss_one (ps_raise XB_BadStops.x XB_BadStops.m (pa_cons pe_str pa_nil)))
        pss_nil)
      (pss_one (ps_set (i := 1) sc_check_told.nd rfl (Or.inl rfl) (pv 2))))))), ?_⟩
  refine ⟨_, rfl, a, rfl, ⟨_, hS⟩, for_list (K := K) (a := a) (xs := ts.map V.int) (fun i σ H2 => H2 = H ∧ (∀ (j : Nat) t, j < i → ts[j]? = some t → lastOf (ts.take j) < t) ∧ ∃ v, σ = [some (.ref a), some (.int (lastOf (ts.take i))), v])
    ⟨rfl, fun j _ hj => absurd hj (Nat.not_lt_zero _), none, rfl⟩ (fun i σ H2 _ ⟨e, _⟩ => e ▸ hS) ?_ ?_⟩
  · rintro i y σ H2 hi ⟨rfl, hall, v, rfl⟩
    obtain ⟨t, rfl, ht⟩ := ints_at hi
    walk_at "rd"
    refine ite2 (fun c => ?_) (fun c => ?_)
    · have c' : t ≤ lastOf (ts.take i) := of_decide_eq_true c
      refine ⟨le_line (by decide), hE fun hR => ?_⟩
      have := take_lt hR ht
      omega
    · have c' : ¬ t ≤ lastOf (ts.take i) := of_decide_eq_false (Bool.eq_false_iff.mpr c)
      walk_at "rd"
      refine ⟨rfl, fun j x hj hx => ?_, some (.int t), by rw [take_last ht]; rfl⟩
      rcases Nat.lt_or_eq_of_le (Nat.le_of_lt_succ hj) with z | z
      · exact hall j x z hx
      · subst z
        rw [ht] at hx
        cases hx
        omega
  · rintro σ H2 ⟨rfl, hall, v, rfl⟩
    refine hY (rise_take fun i t e => hall i t ?_ e)
    rw [List.length_map]
    exact (List.getElem?_eq_some_iff.mp e).1
def sp_check_stepX (Cb : Addr) : Sp := fun vs H Q E => ∃ st : Int, vs = [.int st] ∧ (0 < st → Q .non H) ∧ (¬ 0 < st → E (.ref Cb) none H)
theorem x_check_step {C_BadStops : Addr} (XB_BadStops : XB K mg "BadStops" C_BadStops) (h : Has K mg "check_step" s_check_step ["step"]) : DefX P w K mg base "check_step" 1 ["step"] (sp_check_stepX C_BadStops) := by
  obtain ⟨f, fd, F, m, b⟩ := h
  refine ⟨f, fd, m, F.kp, b, F.okX sc_check_step (fun vs H Q E h => ?_) (fun cdv A outer s H vs Q E hr h => ?_)⟩
  · obtain ⟨st, rfl, _⟩ := h
    rfl
  obtain ⟨st, rfl, hY, hE⟩ := h
  refine ⟨_, (pss_one (ps_if (pt_cmpR op_lt (pv 0) pe_int (nomark _))
        (pss_one (ps_raise XB_BadStops.x XB_BadStops.m (pa_cons pe_str pa_nil)))
        pss_nil)), ?_⟩
  walk_at "rd"
  refine ite2 (fun c => ?_) (fun c => ?_)
  · have c' : st < 1 := of_decide_eq_true c
    exact ⟨le_line (by decide), hE (by omega)⟩
  · have c' : ¬ st < 1 := of_decide_eq_false (Bool.eq_false_iff.mpr c)
    exact hY (by omega)
/-- Ruler(told, step), refused -/
def sp_initX (K : PySem.W.Frag) (C Cb : Addr) : Sp := fun vs H _ E => ∃ (p dx a : Addr) (ts : List Int) (st : Int), vs = [.ref p, .ref a, .int st] ∧ H p = some (.ins C dx []) ∧ H a = some (.lst (ts.map V.int)) ∧ ¬ (Rise 0 ts ∧ 0 < st) ∧ E (.ref Cb) none H
theorem x_init {f C C_BadStops : Addr} {fd : FuncData} {ds : List Value} (B : Blt K mg) (F : FunD K "__init__" "Ruler.__init__" s_Ruler___init__ ds f fd) (DX_check_told : DefX P w K mg base "check_told" 1 ["told"] (sp_check_toldX K C_BadStops)) (DX_check_step : DefX P w K mg base "check_step" 1 ["step"] (sp_check_stepX C_BadStops)) :
    FnOk P w K mg base (CX1 P w) 2 f fd ["self", "told", "step"] (sp_initX K C C_BadStops) := by
  refine F.okX sc_Ruler___init__ (fun vs H Q E h => ?_) (fun cdv A outer s H vs Q E hr h => ?_)
  · obtain ⟨p, dx, a, ts, st, rfl, _⟩ := h
    rfl
  obtain ⟨p, dx, a, ts, st, rfl, hp, hS, hR, k⟩ := h
  refine ⟨_, (pss_cons (ps_expr (pe_defX DX_check_told (hr.mono (by decide)) (pa_cons (pv 1) pa_nil)))
      (pss_cons (ps_expr (pe_defX DX_check_step (hr.mono (by decide)) (pa_cons (pv 2) pa_nil)))
      (pss_cons (ps_fld (pv 0) (pe_callTy call_tuple_of rfl B.tuple bt_tuple (pa_cons (pv 1) pa_nil)) rfl)
      (pss_cons (ps_fld (pv 0) (pv 2) rfl)
      (pss_one (ps_fld (pv 0) (pe_ifExp (pt_truth (pv 1) (fun _ => rfl)) (pe_ix ix_list (pv 1) (pe_un un_neg pe_int) (fun _ _ => rfl)) pe_int) rfl)))))), ?_⟩
  refine ⟨_, rfl, a, ts, rfl, SqL.of hS, fun h1 => ?_, fun _ => k⟩
  exact ⟨_, rfl, st, rfl, fun h2 => absurd ⟨h1, h2⟩ hR, fun _ => k⟩
end
end Rl
/-! ### tabstops.pressing -/
namespace Rl
open PySem L2 Tb
/-- the constants of the modules -/
structure Glb (mg : Str → Option Value) : Prop where
  BLANK : ∃ u, mg "BLANK" = some u ∧ RelV (.str (tx [32])) u
  JUMP : ∃ u, mg "JUMP" = some u ∧ RelV (.str (tx [9])) u
structure GlbW (mg : Str → Option Value) : Prop extends Glb mg where
  GREATEST_WIDTH : ∃ u, mg "GREATEST_WIDTH" = some u ∧ RelV (.int 2000) u
/-- a ruler and a row whose columns can be reckoned -/
def Fits (ts : List Int) (st : Int) (n : Nat) : Prop := lastOf ts + n * st < BIG
theorem Fits.wid {ts : List Int} {st : Int} {l : List Nat} (h : Fits ts st l.length) (hR : Rise 0 ts) (h0 : 0 < st) (i : Nat) : ((wid (nx ts st) 0 (l.take i) : Nat) : Int) < BIG := by
  have h1 := wid_bound hR h0 l 0
  have h2 := wid_mono (nx_nx hR h0) l 0 i
  have h3 := hR.last_nn
  have e : (if ((0 : Nat) : Int) > lastOf ts then ((0 : Nat) : Int) else lastOf ts) = lastOf ts := by
    rw [if_neg]
    show ¬ (0 : Int) > lastOf ts
    omega
  rw [e] at h1
  unfold Fits at h
  omega
section
variable {K : PySem.W.Frag}
/-- ruler.next_stop(column), read -/
theorem rd_next {C p : Addr} {H : Hp} {ts : List Int} {st c : Int} {σ : St} {i j : Nat} {Q : VK} (h1 : σ[i]? = some (some (.ref p))) (h2 : σ[j]? = some (some (.int c))) (hA : RulerAt C H p ts st) (h0 : 0 ≤ c) (hb : c < BIG) (q : Q (.int (nextStop ts st c)) H) :
    tMeth C "next_stop" (sp_next C) [] E0 (tVar i) (tCons (tVar j) tNil) σ H Q := by
  obtain ⟨⟨dx, tp, hp, htp⟩, _⟩ := id hA
  exact ⟨_, h1, p, dx, _, rfl, hp, f_no _ _ _ (by decide +kernel) (by decide +kernel) (by decide +kernel), _, h2, p, ts, st, c, rfl, hA, h0, hb, q⟩
end
end Rl
namespace Rl
open PySem L2 Tb
def txs (ls : List (List Nat)) : List V := ls.map fun l => V.str (tx l)
theorem txs_snoc (ls : List (List Nat)) (l : List Nat) : txs ls ++ [.str (tx l)] = txs (ls ++ [l]) := by
  unfold txs
  rw [List.map_append]
  rfl
theorem cutN_sub {l : List Nat} {b e : Nat} (h : b ≤ l.length) (he : e ≤ l.length) : cutN l (some (b : Int)) (some (e : Int)) = sub l b e := by
  unfold cutN sub
  rw [HT.sIx_nat, HT.sIx_nat, Nat.min_eq_left h, Nat.min_eq_left he]
theorem cutN_from {l : List Nat} {b : Nat} (h : b ≤ l.length) : cutN l (some (b : Int)) none = l.drop b := by
  unfold cutN
  rw [HT.sIx_nat, HT.sIx_none, Nat.min_eq_left h, ← List.length_drop, List.take_length]
theorem cutN_to {l : List Nat} {e : Nat} : cutN l none (some (e : Int)) = l.take e := by
  unfold cutN
  rw [HT.sIx_nat, HT.sIx_none, List.drop_zero, Nat.sub_zero]
  by_cases h : e ≤ l.length
  · rw [Nat.min_eq_left h]
  · rw [Nat.min_eq_right (by omega), List.take_length, List.take_of_length_le (by omega)]
end Rl
namespace Rl
open PySem L2 Tb
local macro_rules | `(tactic| walk_at "rd") => `(tactic| repeat (first | refine ⟨_, _, rfl, rfl, ⟨by decide, by decide, by decide⟩, ?_⟩ | refine ⟨_, _, rfl, rfl, ⟨by decide, by decide⟩, ?_⟩ | refine ⟨_, _, rfl, rfl, (by show (0 : Int) < _; decide +kernel), ?_⟩ | refine ⟨_, _, rfl, rfl, ?_⟩ | refine ⟨_, rfl, ?_⟩ | refine ⟨(rfl : scal _ _ = true), ?_⟩))
section
variable {P : Program} {w : World} {K : PySem.W.Frag} {mg : Str → Option Value} {base : Heap}
abbrev s_check_plain : Stmt := top 10
theorem sc_check_plain : FnScope ["row"] ["row"] (defScope s_check_plain) := ⟨rfl, rfl, rfl, by decide +kernel, rfl, by decide +kernel, by decide +kernel⟩
def sp_check_plain : Sp := fun vs H Q _ => ∃ l : List Nat, vs = [.str (tx l)] ∧ 9 ∉ l ∧ Q .non H
theorem d_check_plain (G : Glb mg) (h : Has K mg "check_plain" s_check_plain ["row"]) : Def P w K mg base "check_plain" 1 ["row"] sp_check_plain := by
  obtain ⟨f, fd, F, m, b⟩ := h
  refine ⟨f, fd, m, F.kp, b, F.ok sc_check_plain (fun vs H Q E h => ?_) (fun cdv A outer s H vs Q E hr h => ?_)⟩
  · obtain ⟨l, rfl, _⟩ := h
    rfl
  obtain ⟨l, rfl, h9, k⟩ := h
  refine ⟨_, (pss_one (ps_if (pt_cmpR op_inS (pe_globR rfl G.JUMP) (pv 0) rfl)
        (pss_one ps_never)
        pss_nil)), ?_⟩
  refine ⟨_, rfl, 9, l, rfl, rfl, _, rfl, ?_⟩
  rw [decide_eq_false h9]
  exact iteF k
def sp_check_plainX (Cb : Addr) : Sp := fun vs H Q E => ∃ l : List Nat, vs = [.str (tx l)] ∧ (9 ∉ l → Q .non H) ∧ (9 ∈ l → E (.ref Cb) none H)
theorem x_check_plain {C_NotSpread : Addr} (G : Glb mg) (XB_NotSpread : XB K mg "NotSpread" C_NotSpread) (h : Has K mg "check_plain" s_check_plain ["row"]) : DefX P w K mg base "check_plain" 1 ["row"] (sp_check_plainX C_NotSpread) := by
  obtain ⟨f, fd, F, m, b⟩ := h
  refine ⟨f, fd, m, F.kp, b, F.okX sc_check_plain (fun vs H Q E h => ?_) (fun cdv A outer s H vs Q E hr h => ?_)⟩
  · obtain ⟨l, rfl, _⟩ := h
    rfl
  obtain ⟨l, rfl, kN, kY⟩ := h
  refine ⟨_, (pss_one (ps_if (pt_cmpR op_inS (pe_globR rfl G.JUMP) (pv 0) rfl)
        (pss_one (ps_raise XB_NotSpread.x XB_NotSpread.m (pa_cons pe_str pa_nil)))
        pss_nil)), ?_⟩
  refine ⟨_, rfl, 9, l, rfl, rfl, _, rfl, ?_⟩
  refine ite2 (fun z => ?_) (fun z => ?_)
  · exact ⟨le_line (by decide), kY (of_decide_eq_true z)⟩
  · exact kN (of_decide_eq_false (Bool.eq_false_iff.mpr z))
end
end Rl
namespace Rl
open PySem L2 Tb
local macro_rules | `(tactic| walk_at "rd") => `(tactic| repeat (first | refine ⟨_, _, rfl, rfl, ⟨by decide, by decide, by decide⟩, ?_⟩ | refine ⟨_, _, rfl, rfl, ⟨by decide, by decide⟩, ?_⟩ | refine ⟨_, _, rfl, rfl, (by show (0 : Int) < _; decide +kernel), ?_⟩ | refine ⟨_, _, rfl, rfl, ?_⟩ | refine ⟨_, rfl, ?_⟩ | refine ⟨(rfl : scal _ _ = true), ?_⟩))
section
variable {P : Program} {w : World} {K : PySem.W.Frag} {mg : Str → Option Value} {base : Heap}
abbrev s_pressed_part : Stmt := top 11
theorem sc_pressed_part : FnScope ["part", "kept"] ["part"] (defScope s_pressed_part) := ⟨rfl, rfl, rfl, by decide +kernel, rfl, by decide +kernel, by decide +kernel⟩
abbrev s_pressed : Stmt := top 12
theorem sc_pressed : FnScope ["row", "ruler", "parts", "begin", "end"] ["row", "ruler"] (defScope s_pressed) := ⟨rfl, rfl, rfl, by decide +kernel, rfl, by decide +kernel, by decide +kernel⟩
theorem rstr_rst (l : List Nat) : rstr l = rst l := rfl
def sp_part : Sp := fun vs H Q _ => ∃ l : List Nat, vs = [.str (tx l)] ∧ l.length ≤ 10000 ∧ Q (.str (tx (pp l))) H
theorem d_part (B : Blt K mg) (G : Glb mg) (h : Has K mg "pressed_part" s_pressed_part ["part"]) : Def P w K mg base "pressed_part" 1 ["part"] sp_part := by
  obtain ⟨f, fd, F, m, b⟩ := h
  refine ⟨f, fd, m, F.kp, b, F.ok sc_pressed_part (fun vs H Q E h => ?_) (fun cdv A outer s H vs Q E hr h => ?_)⟩
  · obtain ⟨l, rfl, _⟩ := h
    rfl
  obtain ⟨l, rfl, hl, k⟩ := h
  refine ⟨_, (pss_cons (ps_set (i := 1) sc_pressed_part.nd rfl (Or.inl rfl) (pe_bm PySem.F.plainAttrs_str PySem.F.slot_str_rstrip PySem.F.type_str_rstrip mt_rstrip (pv 0) (pa_cons (pe_globR rfl G.BLANK) pa_nil)))
      (pss_cons (ps_if (pt_cmpR op_lt (pe_op op_sub (pe_callB call_lenS rfl B.len bt_len (pa_cons (pv 0) pa_nil)) (pe_callB call_lenS rfl B.len bt_len (pa_cons (pv 1) pa_nil))) pe_int (nomark _))
        (pss_one (ps_ret (pv 0)))
        pss_nil)
      (pss_one (ps_ret (pe_op op_addS (pv 1) (pe_globR rfl G.JUMP)))))), ?_⟩
  have hle := rst_len l
  refine ⟨_, rfl, rfl, l, rfl, rfl, by omega, ?_⟩
  rw [rstr_rst]
  refine ⟨_, rfl, l, rfl, by omega, _, rfl, rst l, rfl, by omega, _, _, rfl, rfl, ?_⟩
  walk_at "rd"
  refine ite2 (fun z => ?_) (fun z => ?_)
  · have z' : ((l.length : Nat) : Int) - (((rst l).length : Nat) : Int) < 2 := of_decide_eq_true z
    have e : pp l = l := by unfold pp; rw [if_pos (by omega)]
    rw [e] at k
    exact ⟨_, rfl, k⟩
  · have z' : ¬ ((l.length : Nat) : Int) - (((rst l).length : Nat) : Int) < 2 := of_decide_eq_false (Bool.eq_false_iff.mpr z)
    have e : pp l = rst l ++ [9] := by unfold pp; rw [if_neg (by omega)]
    rw [e] at k
    exact ⟨_, rfl, _, _, rfl, rfl, by simp; omega, k⟩
def sp_pressed (C : Addr) : Sp := fun vs H Q _ => ∃ (l : List Nat) (p : Addr) (ts : List Int) (st : Int), vs = [.str (tx l), .ref p] ∧ RulerAt C H p ts st ∧ l.length ≤ 10000 ∧ 9 ∉ l ∧ ∀ H', Same H H' → Q (.str (tx (prs (nx ts st) l 0))) H'
def sp_pressedX (C Cb : Addr) : Sp := fun vs H _ E => ∃ (l : List Nat) (p : Addr) (ts : List Int) (st : Int), vs = [.str (tx l), .ref p] ∧ 9 ∈ l ∧ E (.ref Cb) none H
theorem pp_len_le (l : List Nat) : (pp l).length ≤ l.length := by
  have := rst_len l
  unfold pp
  split
  · exact Nat.le_refl _
  · rw [List.length_append]
    show _ + 1 ≤ _
    omega
theorem d_pressed {C : Addr} (B : Blt K mg) (h : Has K mg "pressed" s_pressed ["row", "ruler"]) (D_check_plain : Def P w K mg base "check_plain" 1 ["row"] sp_check_plain) (D_pressed_part : Def P w K mg base "pressed_part" 1 ["part"] sp_part)
    (D_Ruler_next_stop : MDef P w K mg base C "next_stop" 2 ["self", "column"] (sp_next C)) : Def P w K mg base "pressed" 3 ["row", "ruler"] (sp_pressed C) := by
  obtain ⟨f, fd, F, m, b⟩ := h
  refine ⟨f, fd, m, F.kp, b, F.ok sc_pressed (fun vs H Q E h => ?_) (fun cdv A outer s H vs Q E hr h => ?_)⟩
  · obtain ⟨l, p, ts, st, rfl, _⟩ := h
    rfl
  obtain ⟨l, p, ts, st, rfl, hA, hl, h9, k⟩ := h
  refine ⟨_, (pss_cons (ps_expr (pe_def D_check_plain (hr.mono (by decide)) (pa_cons (pv 0) pa_nil)))
      (pss_cons (ps_set (i := 2) sc_pressed.nd rfl (Or.inl rfl) (pe_lst pa_nil))
      (pss_cons (ps_set (i := 3) sc_pressed.nd rfl (Or.inl rfl) pe_int)
      (pss_cons (ps_set (i := 4) sc_pressed.nd rfl (Or.inl rfl) (pe_mdef D_Ruler_next_stop (hr.mono (by decide)) (pv 1) (pa_cons (pv 3) pa_nil)))
      (pss_cons (ps_while PassesOwn.never (pt_cmpR op_le (pv 4) (pe_callB call_lenS rfl B.len bt_len (pa_cons (pv 0) pa_nil)) (nomark _))
        (pss_cons (ps_expr (pe_bm PySem.F.plainAttrs_list PySem.F.slot_list_append PySem.F.type_list_append mt_append (pv 2) (pa_cons (pe_def D_pressed_part (hr.mono (by decide)) (pa_cons (pe_slice sl_str (pv 0) (po_some (pv 3)) (po_some (pv 4))) pa_nil)) pa_nil)))
      (pss_cons (ps_set (i := 3) sc_pressed.nd rfl (Or.inl rfl) (pv 4))
      (pss_one (ps_set (i := 4) sc_pressed.nd rfl (Or.inl rfl) (pe_mdef D_Ruler_next_stop (hr.mono (by decide)) (pv 1) (pa_cons (pv 3) pa_nil)))))))
      (pss_cons (ps_expr (pe_bm PySem.F.plainAttrs_list PySem.F.slot_list_append PySem.F.type_list_append mt_append (pv 2) (pa_cons (pe_slice sl_str (pv 0) (po_some (pv 3)) po_none) pa_nil)))
      (pss_one (ps_ret (pe_bm PySem.F.plainAttrs_str PySem.F.slot_str_join PySem.F.type_str_join mt_join (pe_lit lit_empty) (pa_cons (pv 2) pa_nil)))))))))), ?_⟩
  have hR := hA.2.1
  have h0 := hA.2.2.1
  have hN := nx_nx hR h0
  have hB : (10000 : Int) < BIG := Int.lt_of_le_of_lt (by decide +kernel) big_pos
  refine ⟨_, rfl, l, rfl, h9, ?_⟩
  refine ⟨le_line (by decide), fun r hr' => ?_⟩
  have g1 : Same H (upd H r (.lst [])) := same_upd hr'
  have eN : ∀ b : Nat, nextStop ts st (b : Int) = ((nx ts st b : Nat) : Int) := fun b => nx_cast hR h0 b
  refine rd_next rfl rfl (hA.same g1) (Int.le_refl 0) (by omega) ?_
  have e0 := eN 0
  rw [show ((0 : Nat) : Int) = 0 from rfl] at e0
  rw [e0]
  refine ⟨fun m σ H2 => ∃ (b : Nat) (ps : List (List Nat)), σ = [some (.str (tx l)), some (.ref p), some (.ref r), some (.int (b : Int)), some (.int ((nx ts st b : Nat) : Int))] ∧ Same H H2 ∧ H2 r = some (.lst (txs ps)) ∧ b ≤ l.length ∧ m = l.length - b ∧ ps.flatten ++ prs (nx ts st) l b = prs (nx ts st) l 0 ∧ ps.flatten.length ≤ b ∧ ps.length ≤ b,
    ⟨_, 0, [], rfl, g1, upd_same, Nat.zero_le _, rfl, rfl, Nat.zero_le _, Nat.zero_le _⟩, ?_⟩
  rintro m σ H2 ⟨b, ps, rfl, g, hp, hb, rfl, hfl, hs1, hs2⟩
  have gt := hN.gt b
  refine ⟨_, rfl, _, rfl, l, rfl, by omega, _, _, rfl, rfl, _, rfl, ?_⟩
  have eq := prs_eq hN l b
  refine ite2 (fun z => ?_) (fun z => ?_)
  · have z' : ((nx ts st b : Nat) : Int) ≤ ((l.length : Nat) : Int) := of_decide_eq_true z
    have z2 : nx ts st b ≤ l.length := by omega
    rw [if_pos z2] at eq
    have sl : (sub l b (nx ts st b)).length = nx ts st b - b := sub_length z2
    refine ⟨fun σ' H' => ∃ m', m' < l.length - b ∧ ∃ (b : Nat) (ps : List (List Nat)), σ' = [some (.str (tx l)), some (.ref p), some (.ref r), some (.int (b : Int)), some (.int ((nx ts st b : Nat) : Int))] ∧ Same H H' ∧ H' r = some (.lst (txs ps)) ∧ b ≤ l.length ∧ m' = l.length - b ∧ ps.flatten ++ prs (nx ts st) l b = prs (nx ts st) l 0 ∧ ps.flatten.length ≤ b ∧ ps.length ≤ b, fun σ' H' z => z, ?_⟩
    refine ⟨_, rfl, .inl ⟨rfl, _, SqL.of hp⟩, _, rfl, _, rfl, b, rfl, _, rfl, _, rfl, l, rfl, by omega, ?_⟩
    rw [cutN_sub hb z2]
    refine ⟨sub l b (nx ts st b), rfl, by omega, r, _, _, rfl, rfl, hp, lt_line (by unfold txs; rw [List.length_map]; omega), ?_⟩
    rw [txs_snoc]
    have g2 : Same H (upd H2 r (.lst (txs (ps ++ [pp (sub l b (nx ts st b))])))) := fun c o e => by rw [upd_ne (ne_of_none e hr')]; exact g c o e
    refine ⟨_, rfl, ?_⟩
    refine rd_next (c := ((nx ts st b : Nat) : Int)) rfl rfl (hA.same g2) (Int.natCast_nonneg _) (by omega) ?_
    rw [eN]
    have pl := pp_len_le (sub l b (nx ts st b))
    refine ⟨l.length - nx ts st b, by omega, nx ts st b, ps ++ [pp (sub l b (nx ts st b))], rfl, g2, upd_same, z2, rfl, ?_, ?_, ?_⟩
    · rw [← hfl, eq]
      simp [List.append_assoc]
    · have e3 : (ps ++ [pp (sub l b (nx ts st b))]).flatten.length = ps.flatten.length + (pp (sub l b (nx ts st b))).length := by
        rw [List.flatten_append, List.length_append]
        congr 1
        simp
      rw [e3]
      omega
    · simp
      omega
  · have z' : ¬ ((nx ts st b : Nat) : Int) ≤ ((l.length : Nat) : Int) := of_decide_eq_false (Bool.eq_false_iff.mpr z)
    rw [if_neg (by omega)] at eq
    refine ⟨_, rfl, .inl ⟨rfl, _, SqL.of hp⟩, _, rfl, _, rfl, b, rfl, l, rfl, by omega, ?_⟩
    rw [cutN_from hb]
    refine ⟨r, _, _, rfl, rfl, hp, lt_line (by unfold txs; rw [List.length_map]; omega), ?_⟩
    rw [txs_snoc]
    have g2 : Same H (upd H2 r (.lst (txs (ps ++ [l.drop b])))) := fun c o e => by rw [upd_ne (ne_of_none e hr')]; exact g c o e
    refine ⟨rfl, _, rfl, r, _, rfl, rfl, SqL.of upd_same, ?_, ?_⟩
    · have e : ((ps ++ [l.drop b]).map List.length).sum = (ps ++ [l.drop b]).flatten.length := by rw [List.length_flatten]
      have e3 : (ps ++ [l.drop b]).flatten.length = ps.flatten.length + (l.length - b) := by
        rw [List.flatten_append, List.length_append]
        congr 1
        simp
      rw [e, e3]
      omega
    · have e : (ps ++ [l.drop b]).flatten = prs (nx ts st) l 0 := by
        rw [← hfl, eq]
        simp
      rw [e]
      exact k _ g2
theorem x_pressed {C C_NotSpread : Addr} (B : Blt K mg) (h : Has K mg "pressed" s_pressed ["row", "ruler"]) (DX_check_plain : DefX P w K mg base "check_plain" 1 ["row"] (sp_check_plainX C_NotSpread)) (D_pressed_part : Def P w K mg base "pressed_part" 1 ["part"] sp_part)
    (D_Ruler_next_stop : MDef P w K mg base C "next_stop" 2 ["self", "column"] (sp_next C)) : DefX P w K mg base "pressed" 3 ["row", "ruler"] (sp_pressedX C C_NotSpread) := by
  obtain ⟨f, fd, F, m, b⟩ := h
  refine ⟨f, fd, m, F.kp, b, F.okX sc_pressed (fun vs H Q E h => ?_) (fun cdv A outer s H vs Q E hr h => ?_)⟩
  · obtain ⟨l, p, ts, st, rfl, _⟩ := h
    rfl
  obtain ⟨l, p, ts, st, rfl, h9, k⟩ := h
  refine ⟨_, (pss_cons (ps_expr (pe_defX DX_check_plain (hr.mono (by decide)) (pa_cons (pv 0) pa_nil)))
      (pss_cons (ps_set (i := 2) sc_pressed.nd rfl (Or.inl rfl) (pe_lst pa_nil))
      (pss_cons (ps_set (i := 3) sc_pressed.nd rfl (Or.inl rfl) pe_int)
      (pss_cons (ps_set (i := 4) sc_pressed.nd rfl (Or.inl rfl) (pe_mdef D_Ruler_next_stop (hr.mono (by decide)) (pv 1) (pa_cons (pv 3) pa_nil)))
      (pss_cons (ps_while PassesOwn.leaving (pt_cmpR op_le (pv 4) (pe_callB call_lenS rfl B.len bt_len (pa_cons (pv 0) pa_nil)) (nomark _))
        (pss_cons (ps_expr (pe_bm PySem.F.plainAttrs_list PySem.F.slot_list_append PySem.F.type_list_append mt_append (pv 2) (pa_cons (pe_def D_pressed_part (hr.mono (by decide)) (pa_cons (pe_slice sl_str (pv 0) (po_some (pv 3)) (po_some (pv 4))) pa_nil)) pa_nil)))
      (pss_cons (ps_set (i := 3) sc_pressed.nd rfl (Or.inl rfl) (pv 4))
      (pss_one (ps_set (i := 4) sc_pressed.nd rfl (Or.inl rfl) (pe_mdef D_Ruler_next_stop (hr.mono (by decide)) (pv 1) (pa_cons (pv 3) pa_nil)))))))
      (pss_cons (ps_expr (pe_bm PySem.F.plainAttrs_list PySem.F.slot_list_append PySem.F.type_list_append mt_append (pv 2) (pa_cons (pe_slice sl_str (pv 0) (po_some (pv 3)) po_none) pa_nil)))
      (pss_one (ps_ret (pe_bm PySem.F.plainAttrs_str PySem.F.slot_str_join PySem.F.type_str_join mt_join (pe_lit lit_empty) (pa_cons (pv 2) pa_nil)))))))))), ?_⟩
  exact ⟨_, rfl, l, rfl, fun n => absurd h9 n, fun _ => k⟩
end
end Rl
/-! ### small things of the laws -/
namespace Lw
open PySem L2 Tb Rl
structure Bl (K : PySem.W.Frag) (mg : Str → Option Value) : Prop extends Blt K mg where
  list : mg "list" = none
  isinstance : mg "isinstance" = none
  int : mg "int" = none
  bool : mg "bool" = none
  str : mg "str" = none
  max : mg "max" = none
  range : mg "range" = none
  zip : mg "zip" = none
  «ValueError» : mg "ValueError" = none
  kib : PySem.W.kitOne K (.type "int") (.type "bool") = some false
theorem bt_ValueError : bootBuiltins "ValueError" = some (.type "ValueError") := by decide +kernel
theorem kit_same (K : PySem.W.Frag) (n : String) : PySem.W.kitOne K (.type n) (.type n) = some true := by
  unfold PySem.W.kitOne
  rw [if_pos (beq_self_eq_true _)]
theorem mod_pow (x : Int) (k : Nat) : 0 ≤ x % 10 ^ k ∧ x % 10 ^ k < 10 ^ k := by
  have h : (0 : Int) < 10 ^ k := Int.pow_pos (by decide)
  exact ⟨Int.emod_nonneg _ (by omega), Int.emod_lt_of_pos _ h⟩
theorem p62 : (10 : Int) ^ 62 = 100 * 10 ^ 60 := by decide +kernel
theorem p60 : (10 : Int) ^ 60 = 10 * 10 ^ 59 := by decide +kernel
theorem p59 : (1000 : Int) < 10 ^ 59 := by decide +kernel
theorem pBIG : (10 : Int) ^ 70 < BIG := big_pos
theorem cut_ints (ns : List Int) (lo hi : Option Int) : ∃ ms : List Int, cutV (ns.map V.int) lo hi = ms.map V.int ∧ ms.length ≤ ns.length := by
  refine ⟨(ns.drop (HT.sIx ns.length 0 lo)).take (HT.sIx ns.length ns.length hi - HT.sIx ns.length 0 lo), ?_, ?_⟩
  · unfold cutV
    rw [List.length_map, List.map_take, List.map_drop]
  · rw [List.length_take, List.length_drop]
    omega
/-- what _law_told and _law_many hand back -/
def Told (Q : VK) (H : Hp) : Prop := ∀ (r : Addr) (ts : List Int) (H' : Hp), Same H H' → H' r = some (.lst (ts.map V.int)) → Rise 0 ts → ts.length ≤ 63 → lastOf ts ≤ 10 ^ 62 → Q (.ref r) H'
/-- a told stop more -/
def TP (r : Addr) (H H2 : Hp) (i : Nat) (ts : List Int) : Prop := Same H H2 ∧ H2 r = some (.lst (ts.map V.int)) ∧ Rise 0 ts ∧ ts.length = i ∧ lastOf ts ≤ i * 10 ^ 60
theorem TP.more {r : Addr} {H H2 : Hp} {i : Nat} {ts : List Int} {d : Int} (h : TP r H H2 i ts) (hr : H r = none) (h1 : 1 ≤ d) (h2 : d ≤ 10 ^ 59) :
    TP r H (upd H2 r (.lst (ts.map V.int ++ [.int (lastOf ts + d)]))) (i + 1) (ts ++ [lastOf ts + d]) := by
  obtain ⟨g, hr2, hR, hl, hb⟩ := h
  refine ⟨fun b o e => by rw [upd_ne (ne_of_none e hr)]; exact g b o e, by rw [upd_same, List.map_append]; rfl, hR.snoc0 (by omega), by simp [hl], ?_⟩
  rw [lastOf_snoc, Int.natCast_add, Int.add_mul, p60]
  rw [p60] at hb
  have := p59
  omega
theorem TP.fin {r : Addr} {H H2 : Hp} {i : Nat} {ts : List Int} {Q : VK} (h : TP r H H2 i ts) (hi : i ≤ 63) (q : Told Q H) : Q (.ref r) H2 := by
  obtain ⟨g, hr2, hR, hl, hb⟩ := h
  refine q r ts H2 g hr2 hR (by omega) ?_
  rw [p62]
  have : (i : Int) * 10 ^ 60 ≤ 100 * 10 ^ 60 := Int.mul_le_mul_of_nonneg_right (by omega) (by decide +kernel)
  omega
/-- ([0] + told)[-1] -/
theorem rd_last {K : PySem.W.Frag} {σ : St} {H : Hp} {i : Nat} {r : Addr} {ts : List Int} {Q : VK} (hσ : σ[i]? = some (some (.ref r))) (hr : H r = some (.lst (ts.map V.int))) (hl : ts.length ≤ 200) (q : ∀ H', Same H H' → Q (.int (lastOf ts)) H') :
    tOp (rIxL K) (tOp rCat (tLst (tCons (tC (.int 0)) tNil)) (tVar i)) (tUn (rU fun i => .int (-i)) (tC (.int 1))) σ H Q := by
  refine ⟨le_line (by decide), fun p1 h1 => ⟨_, hσ, p1, r, _, _, rfl, rfl, upd_same, same_upd h1 _ _ hr, le_line (by rw [List.length_map]; show 1 + ts.length ≤ _; omega), fun p2 h2 => ?_⟩⟩
  refine ⟨_, rfl, p2, _, _, .int (lastOf ts), rfl, rfl, SqL.of upd_same, at_last ?_, q _ ((same_upd h1).trans (same_upd h2))⟩
  cases ts with
  | nil => rfl
  | cons t r' =>
    rw [List.getLast?_append]
    rw [List.getLast?_map]
    unfold lastOf
    rw [List.getLastD_eq_getLast?]
    cases e : (t :: r').getLast? with
    | none => simp at e
    | some z => rfl
end Lw
namespace Lw
open PySem L2 Tb Rl
local macro_rules | `(tactic| walk_at "rd") => `(tactic| repeat (first | refine ⟨_, _, rfl, rfl, ⟨by decide, by decide, by decide⟩, ?_⟩ | refine ⟨_, _, rfl, rfl, ⟨by decide, by decide⟩, ?_⟩ | refine ⟨_, _, rfl, rfl, (by show (0 : Int) < _; decide +kernel), ?_⟩ | refine ⟨_, _, rfl, rfl, ?_⟩ | refine ⟨_, rfl, ?_⟩ | refine ⟨(rfl : scal _ _ = true), ?_⟩))
section
variable {P : Program} {w : World} {K : PySem.W.Frag} {mg : Str → Option Value} {base : Heap}
abbrev s__law_cell_at : Stmt := top 19
theorem sc__law_cell_at : FnScope ["_law_script", "_law_k"] ["_law_script", "_law_k"] (defScope s__law_cell_at) := ⟨rfl, rfl, rfl, by decide +kernel, rfl, by decide +kernel, by decide +kernel⟩
def sp_cell (K : PySem.W.Frag) : Sp := fun vs H Q _ => ∃ (a : Addr) (ns : List Int) (k : Int), vs = [.ref a, .int k] ∧ SqL K H a (ns.map V.int) ∧ 0 ≤ k ∧ ∀ v, Q (.int v) H
theorem d_cell (B : Bl K mg) (h : Has K mg "_law_cell_at" s__law_cell_at ["_law_script", "_law_k"]) : Def P w K mg base "_law_cell_at" 1 ["_law_script", "_law_k"] (sp_cell K) := by
  obtain ⟨f, fd, F, m, b⟩ := h
  refine ⟨f, fd, m, F.kp, b, F.ok sc__law_cell_at (fun vs H Q E h => ?_) (fun cdv A outer s H vs Q E hr h => ?_)⟩
  · obtain ⟨a, ns, k, rfl, _⟩ := h
    rfl
  obtain ⟨a, ns, k, rfl, hS, h0, q⟩ := h
  refine ⟨_, (pss_cons (ps_if (pt_cmpR op_lt (pv 1) (pe_callB call_len_seq rfl B.len bt_len (pa_cons (pv 0) pa_nil)) (nomark _))
        (pss_one (ps_ret (pe_ix ix_list (pv 0) (pv 1) (fun _ _ => rfl))))
        pss_nil)
      (pss_one (ps_ret pe_int))), ?_⟩
  refine ⟨_, rfl, _, rfl, a, _, rfl, .inl hS, _, _, rfl, rfl, _, rfl, ?_⟩
  refine ite2 (fun c => ?_) (fun c => ?_)
  · have c' : k < (((ns.map V.int).length : Nat) : Int) := of_decide_eq_true c
    rw [List.length_map] at c'
    have hk : k.toNat < ns.length := by omega
    exact ⟨_, rfl, _, rfl, a, _, _, .int ns[k.toNat], rfl, rfl, hS, at_int h0 hk, q _⟩
  · exact q 0
end
end Lw
namespace Lw
open PySem L2 Tb Rl
local macro_rules | `(tactic| walk_at "rd") => `(tactic| repeat (first | refine ⟨_, _, rfl, rfl, ⟨by decide, by decide, by decide⟩, ?_⟩ | refine ⟨_, _, rfl, rfl, ⟨by decide, by decide⟩, ?_⟩ | refine ⟨_, _, rfl, rfl, (by show (0 : Int) < _; decide +kernel), ?_⟩ | refine ⟨_, _, rfl, rfl, ?_⟩ | refine ⟨_, rfl, ?_⟩ | refine ⟨(rfl : scal _ _ = true), ?_⟩))
section
variable {P : Program} {w : World} {K : PySem.W.Frag} {mg : Str → Option Value} {base : Heap}
abbrev s__law_many : Stmt := top 21
theorem sc__law_many : FnScope ["_law_cell", "_law_told_here", "_law_last", "_law_k"] ["_law_cell"] (defScope s__law_many) := ⟨rfl, rfl, rfl, by decide +kernel, rfl, by decide +kernel, by decide +kernel⟩
def sp_many : Sp := fun vs H Q _ => ∃ (c : Int), vs = [.int c] ∧ Told Q H
theorem d_many (B : Bl K mg) (h : Has K mg "_law_many" s__law_many ["_law_cell"]) : Def P w K mg base "_law_many" 1 ["_law_cell"] sp_many := by
  obtain ⟨f, fd, F, m, b⟩ := h
  refine ⟨f, fd, m, F.kp, b, F.ok sc__law_many (fun vs H Q E h => ?_) (fun cdv A outer s H vs Q E hr h => ?_)⟩
  · obtain ⟨c, rfl, _⟩ := h
    rfl
  obtain ⟨c, rfl, q⟩ := h
  refine ⟨_, (pss_cons (ps_set (i := 1) sc__law_many.nd rfl (Or.inl rfl) (pe_lst pa_nil))
      (pss_cons (ps_set (i := 2) sc__law_many.nd rfl (Or.inl rfl) pe_int)
      (pss_cons (ps_for PassesOwn.never rfl (pi_range1 rfl B.range (pa_cons pe_int pa_nil)) (pg_name (i := 3) sc__law_many.nd rfl (Or.inl rfl))
        (pss_cons (ps_set (i := 2) sc__law_many.nd rfl (Or.inl rfl) (pe_op op_add (pe_op op_add (pv 2) pe_int) (pe_op op_mod (pe_op op_fdivB (pv 0) (pe_op op_add (pe_op op_mulB (pv 3) (pv 3)) pe_int)) pe_int)))
      (pss_one (ps_expr (pe_bm PySem.F.plainAttrs_list PySem.F.slot_list_append PySem.F.type_list_append mt_append (pv 1) (pa_cons (pv 2) pa_nil))))))
      (pss_one (ps_ret (pv 1)))))), ?_⟩
  refine ⟨le_line (by decide), fun r hr' => ?_⟩
  refine ⟨60, rfl, by decide, by decide, for_range (n := 60) (fun i σ H2 => ∃ (ts : List Int) (v : Option V), σ = [some (.int c), some (.ref r), some (.int (lastOf ts)), v] ∧ TP r H H2 i ts)
    ⟨[], none, rfl, same_upd hr', upd_same, trivial, rfl, by simp [lastOf]⟩ ?_ ?_⟩
  · rintro i σ H2 hi ⟨ts, v, rfl, tp⟩
    have hl : (ts.map V.int).length < sizeLine := lt_line (by rw [List.length_map, tp.2.2.2.1]; omega)
    have hb := big_pos
    have hk0 : (0 : Int) ≤ 0 + (i : Int) := by omega
    have z0 : 0 ≤ (0 + (i : Int)) * (0 + (i : Int)) := Int.mul_nonneg hk0 hk0
    have z1 : (0 + (i : Int)) * (0 + (i : Int)) ≤ 60 * 60 := Int.mul_le_mul (by omega) (by omega) hk0 (by decide)
    have big : (3601 : Int) ≤ BIG := Int.le_of_lt (Int.lt_of_le_of_lt (by decide +kernel) hb)
    walk_at "rd"
    refine ⟨⟨fits (by omega) (by omega), fits (by omega) (by omega)⟩, ?_⟩
    walk_at "rd"
    refine ⟨⟨by omega, fitsL (by omega) (by omega)⟩, ?_⟩
    walk_at "rd"
    refine ⟨.inl ⟨rfl, _, SqL.of tp.2.1⟩, _, rfl, r, _, _, rfl, rfl, tp.2.1, hl, ?_⟩
    have := p59
    have ea : lastOf ts + 1 + c / ((0 + (i : Int)) * (0 + (i : Int)) + 1) % 5 = lastOf ts + (1 + c / ((0 + (i : Int)) * (0 + (i : Int)) + 1) % 5) := by omega
    refine ⟨ts ++ [lastOf ts + (1 + c / ((0 + (i : Int)) * (0 + (i : Int)) + 1) % 5)], some (.int (0 + (i : Int))), ?_, ?_⟩
    · rw [lastOf_snoc, ← ea]; rfl
    · show TP r H (upd H2 r (.lst (ts.map V.int ++ [V.int (lastOf ts + 1 + c / ((0 + (i : Int)) * (0 + (i : Int)) + 1) % 5)]))) _ _
      rw [ea]
      exact tp.more hr' (by omega) (by omega)
  · rintro σ H2 ⟨ts, v, rfl, tp⟩
    exact ⟨_, rfl, tp.fin (by decide) q⟩
end
end Lw
namespace Lw
open PySem L2 Tb Rl
local macro_rules | `(tactic| walk_at "rd") => `(tactic| repeat (first | refine ⟨_, _, rfl, rfl, ⟨by decide, by decide, by decide⟩, ?_⟩ | refine ⟨_, _, rfl, rfl, ⟨by decide, by decide⟩, ?_⟩ | refine ⟨_, _, rfl, rfl, (by show (0 : Int) < _; decide +kernel), ?_⟩ | refine ⟨_, _, rfl, rfl, ?_⟩ | refine ⟨_, rfl, ?_⟩ | refine ⟨(rfl : scal _ _ = true), ?_⟩))
section
variable {P : Program} {w : World} {K : PySem.W.Frag} {mg : Str → Option Value} {base : Heap}
abbrev s__law_step : Stmt := top 22
theorem sc__law_step : FnScope ["_law_cell"] ["_law_cell"] (defScope s__law_step) := ⟨rfl, rfl, rfl, by decide +kernel, rfl, by decide +kernel, by decide +kernel⟩
def sp_step : Sp := fun vs H Q _ => ∃ (c : Int), vs = [.int c] ∧ ∀ st : Int, 0 < st → st ≤ 10 ^ 60 → Q (.int st) H
theorem d_step (h : Has K mg "_law_step" s__law_step ["_law_cell"]) : Def P w K mg base "_law_step" 1 ["_law_cell"] sp_step := by
  obtain ⟨f, fd, F, m, b⟩ := h
  refine ⟨f, fd, m, F.kp, b, F.ok sc__law_step (fun vs H Q E h => ?_) (fun cdv A outer s H vs Q E hr h => ?_)⟩
  · obtain ⟨c, rfl, _⟩ := h
    rfl
  obtain ⟨c, rfl, q⟩ := h
  refine ⟨_, (pss_cons (ps_if (pt_cmpR op_eq (pe_op op_mod (pv 0) pe_int) pe_int (nomark _))
        (pss_one (ps_ret (pe_op op_add pe_int (pe_op op_mod (pe_op op_fdiv (pv 0) pe_int) pe_int))))
        pss_nil)
      (pss_cons (ps_if (pt_cmpR op_eq (pe_op op_mod (pv 0) pe_int) pe_int (nomark _))
        (pss_one (ps_ret (pe_op op_add pe_int (pe_op op_mod (pe_op op_fdiv (pv 0) pe_int) (pe_op op_pow pe_int pe_int)))))
        pss_nil)
      (pss_one (ps_ret pe_int)))), ?_⟩
  have h9 : (1000 : Int) < 10 ^ 60 := by decide +kernel
  walk_at "rd"
  refine ite2 (fun _ => ?_) (fun _ => ?_)
  · walk_at "rd"
    exact q _ (by omega) (by omega)
  · walk_at "rd"
    refine ite2 (fun _ => ?_) (fun _ => ?_)
    · walk_at "rd"
      have b1 := mod_pow (c / 3) (Int.toNat 60)
      have e60 : (10 : Int) ^ Int.toNat 60 = 10 ^ 60 := rfl
      exact q (1 + c / 3 % 10 ^ 60) (by omega) (by omega)
    · exact q 8 (by decide) (by omega)
end
end Lw
namespace Lw
open PySem L2 Tb Rl
local macro_rules | `(tactic| walk_at "rd") => `(tactic| repeat (first | refine ⟨_, _, rfl, rfl, ⟨by decide, by decide, by decide⟩, ?_⟩ | refine ⟨_, _, rfl, rfl, ⟨by decide, by decide⟩, ?_⟩ | refine ⟨_, _, rfl, rfl, (by show (0 : Int) < _; decide +kernel), ?_⟩ | refine ⟨_, _, rfl, rfl, ?_⟩ | refine ⟨_, rfl, ?_⟩ | refine ⟨(rfl : scal _ _ = true), ?_⟩))
section
variable {P : Program} {w : World} {K : PySem.W.Frag} {mg : Str → Option Value} {base : Heap}
abbrev s__law_is_stop : Stmt := top 25
theorem sc__law_is_stop : FnScope ["_law_told_here", "_law_step_here", "_law_column", "_law_last"] ["_law_told_here", "_law_step_here", "_law_column"] (defScope s__law_is_stop) := ⟨rfl, rfl, rfl, by decide +kernel, rfl, by decide +kernel, by decide +kernel⟩
def sp_is_stop (K : PySem.W.Frag) : Sp := fun vs H Q _ => ∃ (r : Addr) (ts : List Int) (st c : Int), vs = [.ref r, .int st, .int c] ∧ H r = some (.lst (ts.map V.int)) ∧ ts.length ≤ 63 ∧ 0 < st ∧ ∀ H', Same H H' → Q (.bl (isStop ts st c)) H'
theorem d_is_stop (h : Has K mg "_law_is_stop" s__law_is_stop ["_law_told_here", "_law_step_here", "_law_column"]) : Def P w K mg base "_law_is_stop" 1 ["_law_told_here", "_law_step_here", "_law_column"] (sp_is_stop K) := by
  obtain ⟨f, fd, F, m, b⟩ := h
  refine ⟨f, fd, m, F.kp, b, F.ok sc__law_is_stop (fun vs H Q E h => ?_) (fun cdv A outer s H vs Q E hr h => ?_)⟩
  · obtain ⟨r, ts, st, c, rfl, _⟩ := h
    rfl
  obtain ⟨r, ts, st, c, rfl, hr2, hl, h0, q⟩ := h
  refine ⟨_, (pss_cons (ps_set (i := 3) sc__law_is_stop.nd rfl (Or.inl rfl) (pe_ix ix_list (pe_op op_cat (pe_lst (pa_cons pe_int pa_nil)) (pv 0)) (pe_un un_neg pe_int) (fun _ _ => rfl)))
      (pss_cons (ps_if (pt_cmpR op_le (pv 2) (pv 3) (nomark _))
        (pss_one (ps_ret (pe_cmpR op_in_seq (pv 2) (pv 0) rfl)))
        pss_nil)
      (pss_one (ps_ret (pe_cmpR op_eq (pe_op op_mod (pe_op op_sub (pv 2) (pv 3)) (pv 1)) pe_int (nomark _)))))), ?_⟩
  refine rd_last rfl hr2 (by omega) fun H1 g1 => ?_
  walk_at "rd"
  refine ite2 (fun z => ?_) (fun z => ?_)
  · have z' : c ≤ lastOf ts := of_decide_eq_true z
    refine ⟨_, rfl, _, rfl, r, _, rfl, .inl (SqL.of (g1 _ _ hr2)), rfl, flat_ints ts, ?_⟩
    have e : isStop ts st c = inV (.int c) (ts.map V.int) := by
      rw [inV_ints]
      unfold isStop
      rw [if_pos z']
    have := q H1 g1
    rw [e] at this
    exact this
  · have z' : ¬ c ≤ lastOf ts := of_decide_eq_false (Bool.eq_false_iff.mpr z)
    refine ⟨_, rfl, _, rfl, _, _, rfl, rfl, _, rfl, _, _, rfl, rfl, h0, rfl, ?_⟩
    have e : isStop ts st c = decide (V.int ((c - lastOf ts) % st) = V.int 0) := by
      unfold isStop
      rw [if_neg z']
      by_cases y : (c - lastOf ts) % st = 0
      · rw [y]; rfl
      · rw [decide_eq_false y]
        symm
        exact decide_eq_false fun x => y (V.int.inj x)
    have := q H1 g1
    rw [e] at this
    exact this
end
end Lw
namespace Lw
open PySem L2 Tb Rl
local macro_rules | `(tactic| walk_at "rd") => `(tactic| repeat (first | refine ⟨_, _, rfl, rfl, ⟨by decide, by decide, by decide⟩, ?_⟩ | refine ⟨_, _, rfl, rfl, ⟨by decide, by decide⟩, ?_⟩ | refine ⟨_, _, rfl, rfl, (by show (0 : Int) < _; decide +kernel), ?_⟩ | refine ⟨_, _, rfl, rfl, ?_⟩ | refine ⟨_, rfl, ?_⟩ | refine ⟨(rfl : scal _ _ = true), ?_⟩))
section
variable {P : Program} {w : World} {K : PySem.W.Frag} {mg : Str → Option Value} {base : Heap}
abbrev s__law_sign : Stmt := top 23
theorem sc__law_sign : FnScope ["_law_cell", "_law_some"] ["_law_cell"] (defScope s__law_sign) := ⟨rfl, rfl, rfl, by decide +kernel, rfl, by decide +kernel, by decide +kernel⟩
/-- any sign but the blank and the jump -/
def sp_sign : Sp := fun vs H Q _ => ∃ (n : Int), vs = [.int n] ∧ ∀ c : Nat, c ≠ 9 → c ≠ 32 → Q (.str (tx [c])) H
theorem tx_of (z : Str) : z = tx z.cps.toList := by
  cases z with
  | mk a => simp [tx]
theorem d_sign (B : Bl K mg) (h : Has K mg "_law_sign" s__law_sign ["_law_cell"]) : Def P w K mg base "_law_sign" 1 ["_law_cell"] sp_sign := by
  obtain ⟨f, fd, F, m, b⟩ := h
  refine ⟨f, fd, m, F.kp, b, F.ok sc__law_sign (fun vs H Q E h => ?_) (fun cdv A outer s H vs Q E hr h => ?_)⟩
  · obtain ⟨n, rfl, _⟩ := h
    rfl
  obtain ⟨n, rfl, q⟩ := h
  refine ⟨_, (pss_cons (ps_set (i := 1) sc__law_sign.nd rfl (Or.inl rfl) pe_str)
      (pss_cons (ps_set (i := 1) sc__law_sign.nd rfl (Or.inl rfl) (pe_op op_addS (pv 1) pe_str))
      (pss_one (ps_ret (pe_ix ix_strS (pv 1) (pe_op op_mod (pv 0) (pe_callB call_lenS rfl B.len bt_len (pa_cons (pv 1) pa_nil))) (fun _ _ => rfl)))))), ?_⟩
  refine ⟨_, rfl, _, _, congrArg V.str (tx_of _), congrArg V.str (tx_of _), by decide +kernel, ?_⟩
  generalize hl : (_ : Str).cps.toList ++ (_ : Str).cps.toList = l
  have h1 : 0 < l.length ∧ l.length ≤ 200 := by rw [← hl]; decide +kernel
  have h2 : ∀ c ∈ l, c ≠ 9 ∧ c ≠ 32 := by rw [← hl]; decide +kernel
  clear hl
  have hm0 := Int.emod_nonneg n (show ((l.length : Nat) : Int) ≠ 0 by omega)
  have hm1 := Int.emod_lt_of_pos n (show (0 : Int) < ((l.length : Nat) : Int) by omega)
  obtain ⟨k, hk, ek⟩ : ∃ k : Nat, k < l.length ∧ n % ((l.length : Nat) : Int) = (k : Int) := ⟨(n % ((l.length : Nat) : Int)).toNat, by omega, by omega⟩
  refine ⟨_, rfl, _, rfl, _, rfl, l, rfl, by omega, _, _, rfl, rfl, (by show (0 : Int) < _; omega), ?_⟩
  refine ⟨l, _, l[k], rfl, rfl, by omega, ?_, ?_⟩
  · rw [ek]
    exact atI_nat (List.getElem?_eq_getElem hk)
  · have := h2 _ (List.getElem_mem hk)
    exact q _ this.1 this.2
end
end Lw
namespace Lw
open PySem L2 Tb Rl
local macro_rules | `(tactic| walk_at "rd") => `(tactic| repeat (first | refine ⟨_, _, rfl, rfl, ⟨by decide, by decide, by decide⟩, ?_⟩ | refine ⟨_, _, rfl, rfl, ⟨by decide, by decide⟩, ?_⟩ | refine ⟨_, _, rfl, rfl, (by show (0 : Int) < _; decide +kernel), ?_⟩ | refine ⟨_, _, rfl, rfl, ?_⟩ | refine ⟨_, rfl, ?_⟩ | refine ⟨(rfl : scal _ _ = true), ?_⟩))
section
variable {P : Program} {w : World} {K : PySem.W.Frag} {mg : Str → Option Value} {base : Heap}
abbrev s__law_told : Stmt := top 20
theorem sc__law_told : FnScope ["_law_cells", "_law_most", "_law_told_here", "_law_last", "_law_cell"] ["_law_cells", "_law_most"] (defScope s__law_told) := ⟨rfl, rfl, rfl, by decide +kernel, rfl, by decide +kernel, by decide +kernel⟩
def sp_told (K : PySem.W.Frag) : Sp := fun vs H Q _ => ∃ (a : Addr) (ns : List Int) (mo : Int), vs = [.ref a, .int mo] ∧ SqL K H a (ns.map V.int) ∧ ns.length ≤ 63 ∧ 0 < mo ∧ mo ≤ 40 ∧ Told Q H
theorem d_told (h : Has K mg "_law_told" s__law_told ["_law_cells", "_law_most"]) : Def P w K mg base "_law_told" 1 ["_law_cells", "_law_most"] (sp_told K) := by
  obtain ⟨f, fd, F, m, b⟩ := h
  refine ⟨f, fd, m, F.kp, b, F.ok sc__law_told (fun vs H Q E h => ?_) (fun cdv A outer s H vs Q E hr h => ?_)⟩
  · obtain ⟨a, ns, mo, rfl, _⟩ := h
    rfl
  obtain ⟨a, ns, mo, rfl, hS, h63, m0, m1, q⟩ := h
  refine ⟨_, (pss_cons (ps_set (i := 2) sc__law_told.nd rfl (Or.inl rfl) (pe_lst pa_nil))
      (pss_cons (ps_set (i := 3) sc__law_told.nd rfl (Or.inl rfl) pe_int)
      (pss_cons (ps_for PassesOwn.never rfl (pi_list (pv 0)) (pg_name (i := 4) sc__law_told.nd rfl (Or.inl rfl))
        (pss_cons (ps_set (i := 3) sc__law_told.nd rfl (Or.inl rfl) (pe_op op_add (pe_op op_add (pv 3) pe_int) (pe_op op_mod (pv 4) (pv 1))))
      (pss_one (ps_expr (pe_bm PySem.F.plainAttrs_list PySem.F.slot_list_append PySem.F.type_list_append mt_append (pv 2) (pa_cons (pv 3) pa_nil))))))
      (pss_one (ps_ret (pv 2)))))), ?_⟩
  refine ⟨le_line (by decide), fun r hr' => ?_⟩
  refine ⟨_, rfl, a, rfl, ⟨_, (same_upd hr').seq hS⟩, for_list (K := K) (a := a) (xs := ns.map V.int) (fun i σ H2 => ∃ (ts : List Int) (v : Option V), σ = [some (.ref a), some (.int mo), some (.ref r), some (.int (lastOf ts)), v] ∧ TP r H H2 i ts)
    ⟨[], none, rfl, same_upd hr', upd_same, trivial, rfl, by simp [lastOf]⟩ (fun i σ H2 _ ⟨_, _, _, g, _⟩ => g.seq hS) ?_ ?_⟩
  · rintro i y σ H2 hi ⟨ts, v, rfl, tp⟩
    obtain ⟨n, rfl, hn⟩ := ints_at hi
    have hil : i < ns.length := (List.getElem?_eq_some_iff.mp hn).1
    have hl : (ts.map V.int).length < sizeLine := lt_line (by rw [List.length_map, tp.2.2.2.1]; omega)
    have b0 := Int.emod_nonneg n (show mo ≠ 0 by omega)
    have b1 := Int.emod_lt_of_pos n m0
    refine ⟨_, rfl, _, _, rfl, rfl, _, rfl, _, rfl, _, _, rfl, rfl, m0, _, _, rfl, rfl, ?_⟩
    walk_at "rd"
    refine ⟨.inl ⟨rfl, _, SqL.of tp.2.1⟩, _, rfl, r, _, _, rfl, rfl, tp.2.1, hl, ?_⟩
    have := p59
    have ea : lastOf ts + 1 + n % mo = lastOf ts + (1 + n % mo) := by omega
    refine ⟨ts ++ [lastOf ts + (1 + n % mo)], some (.int n), by rw [lastOf_snoc, ← ea]; rfl, ?_⟩
    show TP r H (upd H2 r (.lst (ts.map V.int ++ [V.int (lastOf ts + 1 + n % mo)]))) _ _
    rw [ea]
    exact tp.more hr' (by omega) (by omega)
  · rintro σ H2 ⟨ts, v, rfl, tp⟩
    exact ⟨_, rfl, tp.fin (by rw [List.length_map]; exact h63) q⟩
end
end Lw
namespace Lw
open PySem L2 Tb Rl
/-- what isinstance looks at, of the class of a refusal (Cx), of the one above (Cs), of the three others -/
structure XR (K : PySem.W.Frag) (Cx Cs C1 C2 C3 : Addr) : Prop where
  at_ : XAttr K Cx
  cl : ∃ (k : Value) (dd : Option Addr) (cd : ClassData) (sl : Array (Option Value)), K.lookup Cx = some ⟨k, dd, .cls cd, sl⟩
  ex : PySem.W.exmOne K (.ref Cx) (.ref Cs) = some true
  kV : PySem.W.kitOne K (.ref Cx) (.type "ValueError") = some true
  k1 : PySem.W.kitOne K (.ref Cx) (.ref C1) = some false
  k2 : PySem.W.kitOne K (.ref Cx) (.ref C2) = some false
  k3 : PySem.W.kitOne K (.ref Cx) (.ref C3) = some false
/-- a name of a class alone -/
structure NM (mg : Str → Option Value) (nm : Str) (C : Addr) : Prop where
  m : mg nm = some (.ref C)
theorem kit_own (K : PySem.W.Frag) (C : Addr) : PySem.W.kitOne K (.ref C) (.ref C) = some true := by
  unfold PySem.W.kitOne
  rw [if_pos (beq_self_eq_true _)]
/-- the names of the refusals -/
structure NMs (mg : Str → Option Value) (C_BadStops C_StopsError C_NotSpread C_TooWide C_NoGap : Addr) : Prop where
  b : NM mg "BadStops" C_BadStops
  s : NM mg "StopsError" C_StopsError
  n : NM mg "NotSpread" C_NotSpread
  t : NM mg "TooWide" C_TooWide
  g : NM mg "NoGap" C_NoGap
/-- a part of a block by what holds behind it -/
def tCut (t u : TS) : TS := fun D σ H => ∃ Pv : St → Hp → Prop, (∀ R : St → Hp → Prop, (∀ σ' H', Pv σ' H' → R σ' H') → t { D with nx := R } σ H) ∧ ∀ σ' H', Pv σ' H' → u D σ' H'
theorem pss_cut {X : Cx} {s : Stmt} {ss : List Stmt} {t u : TS} (h1 : PS X s t) (h2 : PSs X ss u) : PSs X (s :: ss) (tCut t u) := fun pins sh σ H D I h => by
  obtain ⟨Pv, a, b⟩ := h
  exact pss_cons h1 h2 pins sh σ H D I (a (u D) b)
end Lw
namespace Lw
open PySem L2 Tb Rl
/-- Ruler(list(told), step), read: the told list at l1 -/
theorem init_told {C : Addr} {K : PySem.W.Frag} {H H2 : Hp} {l1 x dx : Addr} {ts : List Int} {st : Int} {Q : VK} {E : XK} (hS : H2 l1 = some (.lst (ts.map V.int))) (hR : Rise 0 ts) (h0 : 0 < st) (hb : st < BIG) (hb2 : lastOf ts < BIG) (g : Same H H2)
    (nx : H2 x = none) (ndx : H2 dx = none) (k : ∀ H', Same H H' → RulerAt C H' x ts st → Q .non H') :
    sp_init K C [.ref x, .ref l1, .int st] (upd (upd H2 dx (.own x)) x (.ins C dx [])) Q E := by
  have s2 : Same H2 (upd (upd H2 dx (.own x)) x (.ins C dx [])) := fun b o e => by rw [upd_ne (ne_of_none e nx), upd_ne (ne_of_none e ndx)]; exact e
  refine ⟨x, dx, l1, ts, st, rfl, upd_same, s2 _ _ hS, hR, h0, hb, hb2, fun H3 hA k3 => ?_⟩
  refine k H3 (fun b o e => ?_) hA
  have e2 := g b o e
  exact k3 b o (s2 b o e2) (ne_of_none e2 nx)
end Lw
namespace Lw
open PySem L2 Tb Rl
local macro_rules | `(tactic| walk_at "rd") => `(tactic| repeat (first | refine ⟨_, _, rfl, rfl, ⟨by decide, by decide, by decide⟩, ?_⟩ | refine ⟨_, _, rfl, rfl, ⟨by decide, by decide⟩, ?_⟩ | refine ⟨_, _, rfl, rfl, (by show (0 : Int) < _; decide +kernel), ?_⟩ | refine ⟨_, _, rfl, rfl, ?_⟩ | refine ⟨_, rfl, ?_⟩ | refine ⟨(rfl : scal _ _ = true), ?_⟩))
section
variable {P : Program} {w : World} {K : PySem.W.Frag} {mg : Str → Option Value} {base : Heap}
abbrev s__law_next : Stmt := top 26
theorem sc__law_next : FnScope ["_law_told_here", "_law_step_here", "_law_column", "_law_stop", "_law_last"] ["_law_told_here", "_law_step_here", "_law_column"] (defScope s__law_next) := ⟨rfl, rfl, rfl, by decide +kernel, rfl, by decide +kernel, by decide +kernel⟩
def sp_nextL (K : PySem.W.Frag) : Sp := fun vs H Q _ => ∃ (r : Addr) (ts : List Int) (st c : Int), vs = [.ref r, .int st, .int c] ∧ H r = some (.lst (ts.map V.int)) ∧ ts.length ≤ 200 ∧ Rise 0 ts ∧ 0 < st ∧ st < BIG ∧ lastOf ts < BIG ∧ 0 ≤ c ∧ c < BIG ∧ ∀ H', Same H H' → Q (.int (nextStop ts st c)) H'
theorem d_nextL (h : Has K mg "_law_next" s__law_next ["_law_told_here", "_law_step_here", "_law_column"]) : Def P w K mg base "_law_next" 1 ["_law_told_here", "_law_step_here", "_law_column"] (sp_nextL K) := by
  obtain ⟨f, fd, F, m, b⟩ := h
  refine ⟨f, fd, m, F.kp, b, F.ok sc__law_next (fun vs H Q E h => ?_) (fun cdv A outer s H vs Q E hr h => ?_)⟩
  · obtain ⟨r, ts, st, c, rfl, _⟩ := h
    rfl
  obtain ⟨r, ts, st, c, rfl, hr2, hl, hR, h0, hb, hb2, hc, hcb, q⟩ := h
  refine ⟨_, (pss_cons (ps_for PassesOwn.never rfl (pi_list (pv 0)) (pg_name (i := 3) sc__law_next.nd rfl (Or.inl rfl))
        (pss_one (ps_if (pt_cmpR op_gt (pv 3) (pv 2) (nomark _))
        (pss_one (ps_ret (pv 3)))
        pss_nil)))
      (pss_cons (ps_set (i := 4) sc__law_next.nd rfl (Or.inl rfl) (pe_ix ix_list (pe_op op_cat (pe_lst (pa_cons pe_int pa_nil)) (pv 0)) (pe_un un_neg pe_int) (fun _ _ => rfl)))
      (pss_one (ps_ret (pe_op op_add (pv 4) (pe_op op_mulB (pe_op op_add (pe_op op_fdivB (pe_op op_sub (pv 2) (pv 4)) (pv 1)) pe_int) (pv 1))))))), ?_⟩
  refine ⟨_, rfl, r, rfl, ⟨_, SqL.of hr2⟩, for_list (K := K) (a := r) (xs := ts.map V.int) (fun i σ H2 => H2 = H ∧ (∃ v u, σ = [some (.ref r), some (.int st), some (.int c), v, u]) ∧ ∀ (j : Nat) x, j < i → ts[j]? = some x → x ≤ c)
    ⟨rfl, ⟨none, none, rfl⟩, fun j x hj => absurd hj (Nat.not_lt_zero _)⟩ (fun i σ H2 _ ⟨e, _⟩ => e ▸ SqL.of hr2) ?_ ?_⟩
  · rintro i y σ H2 hi ⟨rfl, ⟨v, u, rfl⟩, hall⟩
    obtain ⟨t, rfl, ht⟩ := ints_at hi
    walk_at "rd"
    refine ite2 (fun z => ?_) (fun z => ?_)
    · have z' : c < t := of_decide_eq_true z
      have e := firstGt_next (st := st) hR ht hall z'
      refine ⟨_, rfl, ?_⟩
      have := q H2 (Same.refl _)
      rw [e] at this
      exact this
    · have z' : ¬ c < t := of_decide_eq_false (Bool.eq_false_iff.mpr z)
      refine ⟨rfl, ⟨_, _, rfl⟩, fun j x hj hx => ?_⟩
      rcases Nat.lt_or_eq_of_le (Nat.le_of_lt_succ hj) with y | y
      · exact hall j x y hx
      · subst y
        rw [ht] at hx
        cases hx
        omega
  · rintro σ H2 ⟨rfl, ⟨v, u, rfl⟩, hall⟩
    have hall' : ∀ t ∈ ts, t ≤ c := fun t mt => by
      obtain ⟨j, hj⟩ := List.getElem?_of_mem mt
      exact hall j t (by rw [List.length_map]; exact (List.getElem?_eq_some_iff.mp hj).1) hj
    have e := none_next (st := st) hc hall'
    have hlc : lastOf ts ≤ c := by
      by_cases z : ts = []
      · subst z; exact hc
      · exact hall' _ (last_mem z)
    have hln := hR.last_nn
    have hq0 : 0 ≤ (c - lastOf ts) / st := Int.ediv_nonneg (by omega) (by omega)
    have hq1 : (c - lastOf ts) / st ≤ c - lastOf ts := Int.ediv_le_self st (by omega)
    refine rd_last rfl hr2 hl fun H1 g1 => ?_
    walk_at "rd"
    refine ⟨⟨h0, fitsL h0 (Int.le_of_lt hb)⟩, ?_⟩
    walk_at "rd"
    refine ⟨⟨fits (by omega) (by omega), fits (by omega) (by omega)⟩, ?_⟩
    walk_at "rd"
    have := q H1 g1
    rw [e] at this
    exact this
end
end Lw
namespace Lw
open PySem L2 Tb Rl
local macro_rules | `(tactic| walk_at "rd") => `(tactic| repeat (first | refine ⟨_, _, rfl, rfl, ⟨by decide, by decide, by decide⟩, ?_⟩ | refine ⟨_, _, rfl, rfl, ⟨by decide, by decide⟩, ?_⟩ | refine ⟨_, _, rfl, rfl, (by show (0 : Int) < _; decide +kernel), ?_⟩ | refine ⟨_, _, rfl, rfl, ?_⟩ | refine ⟨_, rfl, ?_⟩ | refine ⟨(rfl : scal _ _ = true), ?_⟩))
section
variable {P : Program} {w : World} {K : PySem.W.Frag} {mg : Str → Option Value} {base : Heap}
abbrev s__law_plain : Stmt := top 24
theorem sc__law_plain : FnScope ["_law_cells", "_law_row", "_law_cell", "_law_piece"] ["_law_cells"] (defScope s__law_plain) := ⟨rfl, rfl, rfl, by decide +kernel, rfl, by decide +kernel, by decide +kernel⟩
def sp_plainrow (K : PySem.W.Frag) : Sp := fun vs H Q _ => ∃ (a : Addr) (ns : List Int), vs = [.ref a] ∧ SqL K H a (ns.map V.int) ∧ ∀ l : List Nat, l.length ≤ 1999 → 9 ∉ l → Q (.str (tx l)) H
theorem no9_rep (k : Nat) : 9 ∉ List.replicate k 32 := fun m => by
  have := List.eq_of_mem_replicate m
  omega
theorem d_plainrow (B : Bl K mg) (h : Has K mg "_law_plain" s__law_plain ["_law_cells"]) (D__law_sign : Def P w K mg base "_law_sign" 1 ["_law_cell"] sp_sign) : Def P w K mg base "_law_plain" 2 ["_law_cells"] (sp_plainrow K) := by
  obtain ⟨f, fd, F, m, b⟩ := h
  refine ⟨f, fd, m, F.kp, b, F.ok sc__law_plain (fun vs H Q E h => ?_) (fun cdv A outer s H vs Q E hr h => ?_)⟩
  · obtain ⟨a, ns, rfl, _⟩ := h
    rfl
  obtain ⟨a, ns, rfl, hS, q⟩ := h
  refine ⟨_, (pss_cons (ps_set (i := 1) sc__law_plain.nd rfl (Or.inl rfl) (pe_lit lit_empty))
      (pss_cons (ps_for PassesOwn.never rfl (pi_list (pv 0)) (pg_name (i := 2) sc__law_plain.nd rfl (Or.inl rfl))
        (pss_cons (ps_set (i := 3) sc__law_plain.nd rfl (Or.inl rfl) (pe_def D__law_sign (hr.mono (by decide)) (pa_cons (pe_op op_fdiv (pv 2) pe_int) pa_nil)))
      (pss_cut (ps_if (pt_cmpR op_eq (pe_op op_mod (pv 2) pe_int) pe_int (nomark _))
        (pss_one (ps_set (i := 3) sc__law_plain.nd rfl (Or.inl rfl) (pe_op op_mulS (pe_lit lit_blank) (pe_op op_add pe_int (pe_op op_mod (pe_op op_fdiv (pv 2) pe_int) pe_int)))))
        pss_nil)
      (pss_cut (ps_if (PW.pt (pw_and (pt_cmpR op_eq (pe_op op_mod (pv 2) pe_int) pe_int (nomark _)) (pw_and1 (pt_cmpR op_eq (pe_op op_mod (pe_op op_fdiv (pv 2) pe_int) pe_int) pe_int (nomark _)))))
        (pss_one (ps_set (i := 3) sc__law_plain.nd rfl (Or.inl rfl) (pe_op op_mulS (pe_lit lit_blank) (pe_op op_add pe_int (pe_op op_mod (pe_op op_fdiv (pv 2) pe_int) pe_int)))))
        pss_nil)
      (pss_one (ps_if (pt_cmpR op_lt (pe_callB call_lenS rfl B.len bt_len (pa_cons (pv 1) pa_nil)) pe_int (nomark _))
        (pss_one (ps_set (i := 1) sc__law_plain.nd rfl (Or.inl rfl) (pe_op op_addS (pv 1) (pv 3))))
        pss_nil))))))
      (pss_one (ps_ret (pv 1))))), ?_⟩
  refine ⟨_, rfl, a, rfl, ⟨_, hS⟩, for_list (K := K) (a := a) (xs := ns.map V.int) (fun i σ H2 => H2 = H ∧ ∃ (l : List Nat) (v u : Option V), σ = [some (.ref a), some (.str (tx l)), v, u] ∧ l.length ≤ 1999 ∧ 9 ∉ l)
    ⟨rfl, [], none, none, rfl, by decide, by simp⟩ (fun i σ H2 _ ⟨e, _⟩ => e ▸ hS) ?_ ?_⟩
  · rintro i y σ H2 hi ⟨rfl, l, v, u, rfl, hl, h9⟩
    obtain ⟨n, rfl, hn⟩ := ints_at hi
    walk_at "rd"
    refine fun c hc9 _ => ?_
    refine ⟨(fun σ' H' => H2 = H' ∧ ∃ k : List Nat, σ' = [some (.ref a), some (.str (tx l)), some (.int n), some (.str (tx k))] ∧ k.length ≤ 99 ∧ 9 ∉ k) , fun R hR => ?_, ?_⟩
    · walk_at "rd"
      refine ite2 (fun _ => ?_) (fun _ => hR _ _ ⟨rfl, [c], rfl, by simp, by simpa using Ne.symm hc9⟩)
      walk_at "rd"
      exact ⟨by omega, by omega, hR _ _ ⟨rfl, _, rfl, by rw [List.length_replicate]; omega, no9_rep _⟩⟩
    rintro σ' H' ⟨rfl, k, rfl, hk, hk9⟩
    refine ⟨(fun σ' H' => H2 = H' ∧ ∃ k : List Nat, σ' = [some (.ref a), some (.str (tx l)), some (.int n), some (.str (tx k))] ∧ k.length ≤ 99 ∧ 9 ∉ k) , fun R hR => ?_, ?_⟩
    · walk_at "rd"
      refine ite2 (fun _ => ?_) (fun _ => hR _ _ ⟨rfl, k, rfl, hk, hk9⟩)
      walk_at "rd"
      refine ite2 (fun _ => ?_) (fun _ => hR _ _ ⟨rfl, k, rfl, hk, hk9⟩)
      walk_at "rd"
      exact ⟨by omega, by omega, hR _ _ ⟨rfl, _, rfl, by rw [List.length_replicate]; omega, no9_rep _⟩⟩
    clear hk9 hk
    rintro σ' H' ⟨rfl, k, rfl, hk, hk9⟩
    refine ⟨_, rfl, l, rfl, by omega, _, _, rfl, rfl, _, rfl, ?_⟩
    refine ite2 (fun c => ?_) (fun c => ?_)
    · have c' : ((l.length : Nat) : Int) < 1900 := of_decide_eq_true c
      refine ⟨_, rfl, _, rfl, l, k, rfl, rfl, by omega, ?_⟩
      exact ⟨rfl, l ++ k, _, _, rfl, by rw [List.length_append]; omega, by rw [List.mem_append]; exact fun z => z.elim h9 hk9⟩
    · exact ⟨rfl, l, _, _, rfl, hl, h9⟩
  · rintro σ H2 ⟨rfl, l, v, u, rfl, hl, h9⟩
    exact ⟨_, rfl, q l hl h9⟩
end
end Lw
namespace Lw
open PySem L2 Tb Rl
local macro_rules | `(tactic| walk_at "rd") => `(tactic| repeat (first | refine ⟨_, _, rfl, rfl, ⟨by decide, by decide, by decide⟩, ?_⟩ | refine ⟨_, _, rfl, rfl, ⟨by decide, by decide⟩, ?_⟩ | refine ⟨_, _, rfl, rfl, (by show (0 : Int) < _; decide +kernel), ?_⟩ | refine ⟨_, _, rfl, rfl, ?_⟩ | refine ⟨_, rfl, ?_⟩ | refine ⟨(rfl : scal _ _ = true), ?_⟩))
section
variable {P : Program} {w : World} {K : PySem.W.Frag} {mg : Str → Option Value} {base : Heap}
abbrev s__law_jumped : Stmt := top 27
theorem sc__law_jumped : FnScope ["_law_plain_here", "_law_told_here", "_law_step_here", "_law_before", "_law_ahead", "_law_column"] ["_law_plain_here", "_law_told_here", "_law_step_here", "_law_before", "_law_ahead", "_law_column"] (defScope s__law_jumped) := ⟨rfl, rfl, rfl, by decide +kernel, rfl, by decide +kernel, by decide +kernel⟩
abbrev s__law_kept : Stmt := top 28
theorem sc__law_kept : FnScope ["_law_plain_here", "_law_told_here", "_law_step_here", "_law_pair", "_law_ahead"] ["_law_plain_here", "_law_told_here", "_law_step_here", "_law_pair", "_law_ahead"] (defScope s__law_kept) := ⟨rfl, rfl, rfl, by decide +kernel, rfl, by decide +kernel, by decide +kernel⟩
abbrev s__law_tight : Stmt := top 29
theorem sc__law_tight : FnScope ["_law_found", "_law_plain_here", "_law_told_here", "_law_step_here", "_law_column", "_law_before", "_law_sign_here", "_law_ahead"] ["_law_found", "_law_plain_here", "_law_told_here", "_law_step_here"] (defScope s__law_tight) := ⟨rfl, rfl, rfl, by decide +kernel, rfl, by decide +kernel, by decide +kernel⟩
def sp_jumped (K : PySem.W.Frag) : Sp := fun vs H Q _ => ∃ (pl bf : List Nat) (r : Addr) (ts : List Int) (st : Int) (a c : Nat), vs = [.str (tx pl), .ref r, .int st, .str (tx bf), .int a, .int c] ∧ H r = some (.lst (ts.map V.int)) ∧ ts.length ≤ 63 ∧ Rise 0 ts ∧ 0 < st ∧ pl.length ≤ 10000 ∧
  c ≤ pl.length ∧ 2 ≤ c - a ∧ sub pl a c = List.replicate (c - a) 32 ∧ (bf ≠ [32] ∨ stp (nx ts st) a) ∧ ∀ H', Same H H' → Q (.bl true) H'
theorem d_jumped (B : Bl K mg) (h : Has K mg "_law_jumped" s__law_jumped ["_law_plain_here", "_law_told_here", "_law_step_here", "_law_before", "_law_ahead", "_law_column"]) (D__law_is_stop : Def P w K mg base "_law_is_stop" 1 ["_law_told_here", "_law_step_here", "_law_column"] (sp_is_stop K)) : Def P w K mg base "_law_jumped" 2 ["_law_plain_here", "_law_told_here", "_law_step_here", "_law_before", "_law_ahead", "_law_column"] (sp_jumped K) := by
  obtain ⟨f, fd, F, m, b⟩ := h
  refine ⟨f, fd, m, F.kp, b, F.ok sc__law_jumped (fun vs H Q E h => ?_) (fun cdv A outer s H vs Q E hr h => ?_)⟩
  · obtain ⟨pl, bf, r, ts, st, a, c, rfl, _⟩ := h
    rfl
  obtain ⟨pl, bf, r, ts, st, a, c, rfl, hr2, hl, hR, h0, hpl, h1, h2, h3, h4, q⟩ := h
  refine ⟨_, (pss_cons (ps_if (PW.pt (pw_or (pt_cmpR op_gt (pv 5) (pe_callB call_lenS rfl B.len bt_len (pa_cons (pv 0) pa_nil)) (nomark _)) (pw_or1 (pt_cmpR op_lt (pe_op op_sub (pv 5) (pv 4)) pe_int (nomark _)))))
        (pss_one (ps_ret pe_bl))
        pss_nil)
      (pss_cons (ps_if (pt_cmpR op_ne (pe_slice sl_str (pv 0) (po_some (pv 4)) (po_some (pv 5))) (pe_op op_mulS (pe_lit lit_blank) (pe_op op_sub (pv 5) (pv 4))) (nomark _))
        (pss_one (ps_ret pe_bl))
        pss_nil)
      (pss_one (ps_ret (pe_or (pe_cmpR op_ne (pv 3) (pe_lit lit_blank) (nomark _)) (pe_one (pe_def D__law_is_stop (hr.mono (by decide)) (pa_cons (pv 1) (pa_cons (pv 2) (pa_cons (pv 4) pa_nil)))))))))), ?_⟩
  refine ⟨_, rfl, _, rfl, pl, rfl, by omega, _, _, rfl, rfl, _, rfl, ?_⟩
  refine ite2 (fun z => ?_) (fun z => ?_)
  · have z' : ((pl.length : Nat) : Int) < (c : Int) := of_decide_eq_true z
    omega
  walk_at "rd"
  refine ite2 (fun z => ?_) (fun z => ?_)
  · have z' : (c : Int) - (a : Int) < 2 := of_decide_eq_true z
    omega
  refine ⟨_, rfl, _, rfl, (a : Int), rfl, _, rfl, (c : Int), rfl, pl, rfl, by omega, ?_⟩
  rw [cutN_sub (by omega) h1, h3]
  refine ⟨_, rfl, _, rfl, _, _, rfl, rfl, 32, _, rfl, rfl, by omega, by omega, rfl, _, rfl, ?_⟩
  have e : ((c : Int) - (a : Int)).toNat = c - a := by omega
  rw [e, txV, decide_eq_true rfl]
  refine iteF ?_
  refine ⟨_, rfl, rfl, _, rfl, ?_⟩
  rw [txV]
  refine ite2 (fun z => q H (Same.refl H)) (fun z => ?_)
  have z' : bf = [32] := by
    refine Classical.byContradiction fun n => z ?_
    rw [decide_eq_false n]
    rfl
  have h5 := h4.resolve_left (fun n => n z')
  refine ⟨_, rfl, _, rfl, _, rfl, r, ts, st, (a : Int), rfl, hr2, hl, h0, fun H1 g1 => ?_⟩
  rw [stp_iff hR h0, decide_eq_true h5]
  exact q H1 g1
def sp_kept (K : PySem.W.Frag) : Sp := fun vs H Q _ => ∃ (pl bf : List Nat) (c0 : Nat) (r : Addr) (ts : List Int) (st : Int) (a : Nat), vs = [.str (tx pl), .ref r, .int st, .str (tx (bf ++ [c0])), .int a] ∧ H r = some (.lst (ts.map V.int)) ∧ ts.length ≤ 63 ∧ Rise 0 ts ∧ 0 < st ∧ pl.length ≤ 10000 ∧ bf.length ≤ 1 ∧
  a ≤ pl.length ∧ sub pl a (a + 1) = [c0] ∧ (bf ++ [c0] = [32, 32] → stp (nx ts st) (a + 1) → stp (nx ts st) a) ∧ ∀ H', Same H H' → Q (.bl true) H'
theorem d_kept (B : Bl K mg) (h : Has K mg "_law_kept" s__law_kept ["_law_plain_here", "_law_told_here", "_law_step_here", "_law_pair", "_law_ahead"]) (D__law_is_stop : Def P w K mg base "_law_is_stop" 1 ["_law_told_here", "_law_step_here", "_law_column"] (sp_is_stop K)) : Def P w K mg base "_law_kept" 2 ["_law_plain_here", "_law_told_here", "_law_step_here", "_law_pair", "_law_ahead"] (sp_kept K) := by
  obtain ⟨f, fd, F, m, b⟩ := h
  refine ⟨f, fd, m, F.kp, b, F.ok sc__law_kept (fun vs H Q E h => ?_) (fun cdv A outer s H vs Q E hr h => ?_)⟩
  · obtain ⟨pl, bf, c0, r, ts, st, a, rfl, _⟩ := h
    rfl
  obtain ⟨pl, bf, c0, r, ts, st, a, rfl, hr2, hl, hR, h0, hpl, hbf, ha, h1, h2, q⟩ := h
  refine ⟨_, (pss_cons (ps_if (pt_cmpR op_ne (pe_slice sl_str (pv 0) (po_some (pv 4)) (po_some (pe_op op_add (pv 4) pe_int))) (pe_ix ix_strS (pv 3) (pe_un un_neg pe_int) (fun _ _ => rfl)) (nomark _))
        (pss_one (ps_ret pe_bl))
        pss_nil)
      (pss_cons (ps_if (PW.pt (pw_or (pt_cmpR op_ne (pv 3) (pe_lit lit_blanks) (nomark _)) (pw_or1 (pt_not (pt_val (pe_def D__law_is_stop (hr.mono (by decide)) (pa_cons (pv 1) (pa_cons (pv 2) (pa_cons (pe_op op_add (pv 4) pe_int) pa_nil)))))))))
        (pss_one (ps_ret pe_bl))
        pss_nil)
      (pss_one (ps_ret (pe_def D__law_is_stop (hr.mono (by decide)) (pa_cons (pv 1) (pa_cons (pv 2) (pa_cons (pv 4) pa_nil)))))))), ?_⟩
  have hlt : a < pl.length := by
    refine Nat.lt_of_le_of_ne ha fun e => ?_
    rw [e] at h1
    simp [sub] at h1
  refine ⟨_, rfl, _, rfl, (a : Int), rfl, _, rfl, _, _, rfl, rfl, (a : Int) + 1, rfl, pl, rfl, by omega, ?_⟩
  have e1 : (a : Int) + 1 = ((a + 1 : Nat) : Int) := by omega
  rw [e1, cutN_sub ha (by omega), h1]
  refine ⟨_, rfl, _, rfl, bf ++ [c0], _, c0, rfl, rfl, by simp; omega, at_last (by simp), rfl, _, rfl, ?_⟩
  rw [txV, decide_eq_true rfl]
  refine iteF ?_
  refine ⟨_, rfl, rfl, _, rfl, ?_⟩
  rw [txV]
  refine ite2 (fun z => q H (Same.refl H)) (fun z => ?_)
  have z' : bf ++ [c0] = [32, 32] := by
    refine Classical.byContradiction fun n => z ?_
    rw [decide_eq_false n]
    rfl
  refine ⟨_, rfl, _, rfl, _, rfl, _, _, rfl, rfl, r, ts, st, (a : Int) + 1, rfl, hr2, hl, h0, fun H1 g1 => ⟨_, rfl, ?_⟩⟩
  rw [e1, stp_iff hR h0]
  by_cases s1 : stp (nx ts st) (a + 1)
  · rw [decide_eq_true s1]
    refine iteF ?_
    refine ⟨_, rfl, _, rfl, _, rfl, r, ts, st, (a : Int), rfl, g1 _ _ hr2, hl, h0, fun H2 g2 => ?_⟩
    rw [stp_iff hR h0, decide_eq_true (h2 z' s1)]
    exact q H2 (g1.trans g2)
  · rw [decide_eq_false s1]
    exact iteT (q H1 g1)
def sp_tight (K : PySem.W.Frag) : Sp := fun vs H Q _ => ∃ (fo pl : List Nat) (r : Addr) (ts : List Int) (st : Int), vs = [.str (tx fo), .str (tx pl), .ref r, .int st] ∧ H r = some (.lst (ts.map V.int)) ∧ ts.length ≤ 63 ∧ Rise 0 ts ∧ 0 < st ∧ st < BIG ∧ lastOf ts < BIG ∧ pl.length ≤ 10000 ∧
  tight (nx ts st) pl 0 [] fo ∧ ∀ H', Same H H' → Q (.bl true) H'
theorem d_tight (B : Bl K mg) (h : Has K mg "_law_tight" s__law_tight ["_law_found", "_law_plain_here", "_law_told_here", "_law_step_here"]) (D__law_next : Def P w K mg base "_law_next" 1 ["_law_told_here", "_law_step_here", "_law_column"] (sp_nextL K)) (D__law_jumped : Def P w K mg base "_law_jumped" 2 ["_law_plain_here", "_law_told_here", "_law_step_here", "_law_before", "_law_ahead", "_law_column"] (sp_jumped K)) (D__law_kept : Def P w K mg base "_law_kept" 2 ["_law_plain_here", "_law_told_here", "_law_step_here", "_law_pair", "_law_ahead"] (sp_kept K)) :
    Def P w K mg base "_law_tight" 3 ["_law_found", "_law_plain_here", "_law_told_here", "_law_step_here"] (sp_tight K) := by
  obtain ⟨f, fd, F, m, b⟩ := h
  refine ⟨f, fd, m, F.kp, b, F.ok sc__law_tight (fun vs H Q E h => ?_) (fun cdv A outer s H vs Q E hr h => ?_)⟩
  · obtain ⟨fo, pl, r, ts, st, rfl, _⟩ := h
    rfl
  obtain ⟨fo, pl, r, ts, st, rfl, hr2, hl, hR, h0, hb, hb2, hpl, ht, q⟩ := h
  refine ⟨_, (pss_cons (ps_if (pt_not (pt_val (pe_callB call_isi rfl B.isinstance bt_isinstance (pa_cons (pv 0) (pa_cons (pe_bltn (v := .ty "str") rfl B.str bt_str rfl) pa_nil)))))
        (pss_one (ps_ret pe_bl))
        pss_nil)
      (pss_cons (ps_set (i := 4) sc__law_tight.nd rfl (Or.inl rfl) pe_int)
      (pss_cons (ps_set (i := 5) sc__law_tight.nd rfl (Or.inl rfl) (pe_lit lit_empty))
      (pss_cons (ps_for PassesOwn.never rfl (pi_str (pv 0)) (pg_name (i := 6) sc__law_tight.nd rfl (Or.inl rfl))
        (pss_cons (ps_set (i := 7) sc__law_tight.nd rfl (Or.inl rfl) (pv 4))
      (pss_cons (ps_if (pt_cmpR op_eq (pv 6) (pe_lit lit_tab) (nomark _))
        (pss_cons (ps_set (i := 4) sc__law_tight.nd rfl (Or.inl rfl) (pe_def D__law_next (hr.mono (by decide)) (pa_cons (pv 2) (pa_cons (pv 3) (pa_cons (pv 7) pa_nil)))))
      (pss_one (ps_if (pt_not (pt_val (pe_def D__law_jumped (hr.mono (by decide)) (pa_cons (pv 1) (pa_cons (pv 2) (pa_cons (pv 3) (pa_cons (pv 5) (pa_cons (pv 7) (pa_cons (pv 4) pa_nil)))))))))
        (pss_one (ps_ret pe_bl))
        pss_nil)))
        (pss_cons (ps_set (i := 4) sc__law_tight.nd rfl (Or.inl rfl) (pe_op op_add (pv 7) pe_int))
      (pss_one (ps_if (pt_not (pt_val (pe_def D__law_kept (hr.mono (by decide)) (pa_cons (pv 1) (pa_cons (pv 2) (pa_cons (pv 3) (pa_cons (pe_op op_addS (pv 5) (pv 6)) (pa_cons (pv 7) pa_nil))))))))
        (pss_one (ps_ret pe_bl))
        pss_nil))))
      (pss_one (ps_set (i := 5) sc__law_tight.nd rfl (Or.inl rfl) (pv 6))))))
      (pss_one (ps_ret (pe_cmpR op_eq (pv 4) (pe_callB call_lenS rfl B.len bt_len (pa_cons (pv 1) pa_nil)) (nomark _)))))))), ?_⟩
  have hB : (10000 : Int) < BIG := Int.lt_of_le_of_lt (by decide +kernel) big_pos
  refine ⟨_, rfl, _, _, _, true, rfl, .str _, .inl ⟨_, rfl, kit_same K "str"⟩, _, rfl, ?_⟩
  refine iteF ?_
  refine ⟨_, rfl, fo, rfl, for_str (l := fo) (fun i σ H2 => ∃ (c : Nat) (bf : List Nat) (v u : Option V), σ = [some (.str (tx fo)), some (.str (tx pl)), some (.ref r), some (.int st), some (.int (c : Int)), some (.str (tx bf)), v, u] ∧ Same H H2 ∧ tight (nx ts st) pl c bf (fo.drop i) ∧ c ≤ pl.length ∧ bf.length ≤ 1)
    ⟨0, [], none, none, rfl, Same.refl H, ht, Nat.zero_le _, Nat.zero_le _⟩ ?_ ?_⟩
  · rintro i c0 σ H2 hi ⟨c, bf, v, u, rfl, g, ht, hc, hbf⟩
    have hil : i < fo.length := (List.getElem?_eq_some_iff.mp hi).1
    have ei : fo[i] = c0 := (List.getElem?_eq_some_iff.mp hi).2
    rw [List.drop_eq_getElem_cons hil, ei] at ht
    unfold tight at ht
    refine ⟨_, rfl, _, rfl, rfl, _, rfl, ?_⟩
    rw [txV]
    refine ite2 (fun z => ?_) (fun z => ?_)
    · have z' : [c0] = [9] := of_decide_eq_true z
      have z'' : c0 = 9 := by simpa using z'
      rw [if_pos z''] at ht
      obtain ⟨⟨t1, t2, t3, t4⟩, t5⟩ := ht
      refine ⟨_, rfl, _, rfl, _, rfl, r, ts, st, (c : Int), rfl, g _ _ hr2, by omega, hR, h0, hb, hb2, Int.natCast_nonneg _, by omega, fun H3 g3 => ?_⟩
      rw [nx_cast hR h0]
      refine ⟨_, rfl, _, rfl, _, rfl, _, rfl, _, rfl, _, rfl, pl, bf, r, ts, st, c, nx ts st c, rfl, (g.trans g3) _ _ hr2, hl, hR, h0, hpl, t1, t2, t3, t4, fun H4 g4 => ⟨_, rfl, ?_⟩⟩
      refine iteF ?_
      subst z''
      exact ⟨_, rfl, nx ts st c, [9], _, _, rfl, (g.trans g3).trans g4, t5, t1, by decide⟩
    · have z'' : c0 ≠ 9 := fun e => z (decide_eq_true (by rw [e]))
      rw [if_neg z''] at ht
      obtain ⟨⟨t1, t2⟩, t3⟩ := ht
      have hlt : c < pl.length := by
        refine Nat.lt_of_le_of_ne hc fun e => ?_
        rw [e] at t1
        simp [sub] at t1
      walk_at "rd"
      refine ⟨by simp; omega, ?_⟩
      walk_at "rd"
      refine ⟨pl, bf, c0, r, ts, st, c, rfl, g _ _ hr2, hl, hR, h0, hpl, hbf, hc, t1, t2, fun H4 g4 => ⟨_, rfl, ?_⟩⟩
      refine iteF ?_
      refine ⟨_, rfl, c + 1, [c0], some (.str (tx [c0])), some (.int (c : Int)), ?_, g.trans g4, t3, hlt, by simp⟩
      have e1 : ((c + 1 : Nat) : Int) = (c : Int) + 1 := by omega
      rw [e1]
      rfl
  · rintro σ H2 ⟨c, bf, v, u, rfl, g, ht, hc, hbf⟩
    rw [List.drop_length] at ht
    have ht' : c = pl.length := ht
    refine ⟨_, rfl, _, rfl, pl, rfl, by omega, rfl, ?_⟩
    have := q H2 g
    rw [ht', decide_eq_true rfl]
    exact this
end
end Lw
namespace Lw
open PySem L2 Tb Rl
local macro_rules | `(tactic| walk_at "rd") => `(tactic| repeat (first | refine ⟨_, _, rfl, rfl, ⟨by decide, by decide, by decide⟩, ?_⟩ | refine ⟨_, _, rfl, rfl, ⟨by decide, by decide⟩, ?_⟩ | refine ⟨_, _, rfl, rfl, (by show (0 : Int) < _; decide +kernel), ?_⟩ | refine ⟨_, _, rfl, rfl, ?_⟩ | refine ⟨_, rfl, ?_⟩ | refine ⟨(rfl : scal _ _ = true), ?_⟩))
section
variable {P : Program} {w : World} {K : PySem.W.Frag} {mg : Str → Option Value} {base : Heap}
abbrev s__law_refused : Stmt := top 30
theorem sc__law_refused : FnScope ["_law_row", "_law_ruler", "_law_good", "_law_bad", "e"] ["_law_row", "_law_ruler"] (defScope s__law_refused) := ⟨rfl, rfl, rfl, by decide +kernel, rfl, by decide +kernel, by decide +kernel⟩
def sp_refused : Sp := fun vs H Q _ => ∃ (l : List Nat) (p : Addr), vs = [.str (tx l), .ref p] ∧ 9 ∈ l ∧ ∀ H', Same H H' → Q (.bl true) H'
theorem d_refused {C C_BadStops C_StopsError C_NotSpread C_TooWide C_NoGap : Addr} (B : Bl K mg) (M : NMs mg C_BadStops C_StopsError C_NotSpread C_TooWide C_NoGap) (X : XR K C_NotSpread C_StopsError C_BadStops C_TooWide C_NoGap) (h : Has K mg "_law_refused" s__law_refused ["_law_row", "_law_ruler"])
    (DX_pressed : DefX P w K mg base "pressed" 3 ["row", "ruler"] (sp_pressedX C C_NotSpread)) : Def P w K mg base "_law_refused" 4 ["_law_row", "_law_ruler"] sp_refused := by
  have XB_BadStops := M.b
  have XB_StopsError := M.s
  have XB_NotSpread := M.n
  have XB_TooWide := M.t
  have XB_NoGap := M.g
  obtain ⟨f, fd, F, m, b⟩ := h
  refine ⟨f, fd, m, F.kp, b, F.ok sc__law_refused (fun vs H Q E h => ?_) (fun cdv A outer s H vs Q E hr h => ?_)⟩
  · obtain ⟨l, p, rfl, _⟩ := h
    rfl
  obtain ⟨l, p, rfl, h9, k⟩ := h
  refine ⟨_, (pss_cons (ps_set (i := 2) sc__law_refused.nd rfl (Or.inl rfl) pe_bl)
      (pss_cons (ps_set (i := 3) sc__law_refused.nd rfl (Or.inl rfl) pe_bl)
      (pss_cons (ps_try (i := 4) sc__law_refused.nd rfl XB_StopsError.m (psx_expr (pex_def DX_pressed (hr.mono (by decide)) (pa_cons (pv 0) (pa_cons (pv 1) pa_nil))))
        (fun _ => (pss_cons (ps_set (i := 2) sc__law_refused.nd rfl (Or.inl rfl) (pe_and (pe_callB (call_isX' K rfl) rfl B.isinstance bt_isinstance (pa_cons (pv 4) (pa_cons (pe_glob (v := .ref C_NotSpread) rfl XB_NotSpread.m rfl) pa_nil))) (pe_one (pe_callB (call_isX' K rfl) rfl B.isinstance bt_isinstance (pa_cons (pv 4) (pa_cons (pe_bltn (v := .ty "ValueError") rfl B.ValueError bt_ValueError rfl) pa_nil))))))
      (pss_one (ps_set (i := 3) sc__law_refused.nd rfl (Or.inl rfl) (pe_or (pe_callB (call_isX' K rfl) rfl B.isinstance bt_isinstance (pa_cons (pv 4) (pa_cons (pe_glob (v := .ref C_BadStops) rfl XB_BadStops.m rfl) pa_nil))) (pe_or (pe_callB (call_isX' K rfl) rfl B.isinstance bt_isinstance (pa_cons (pv 4) (pa_cons (pe_glob (v := .ref C_TooWide) rfl XB_TooWide.m rfl) pa_nil))) (pe_one (pe_callB (call_isX' K rfl) rfl B.isinstance bt_isinstance (pa_cons (pv 4) (pa_cons (pe_glob (v := .ref C_NoGap) rfl XB_NoGap.m rfl) pa_nil)))))))))))
      (pss_one (ps_ret (pe_and (pv 2) (pe_one (pe_not (pv 3))))))))), ?_⟩
  refine ⟨_, rfl, _, rfl, l, p, [], 0, rfl, h9, ?_⟩
  refine ⟨C_NotSpread, rfl, X.ex, fun ea hea => ?_⟩
  have g3 : Same H (upd H ea (.ext (ExcAt ea C_NotSpread))) := same_upd hea
  have hE : (upd H ea (.ext (ExcAt ea C_NotSpread))) ea = some (.ext (ExcAt ea C_NotSpread)) := upd_same
  refine ⟨_, rfl, ea, C_NotSpread, _, true, rfl, hE, X.at_, X.cl, .inr ⟨_, rfl, kit_own K _⟩, _, rfl, ?_⟩
  refine iteT ?_
  refine ⟨_, rfl, ea, C_NotSpread, _, true, rfl, hE, X.at_, X.cl, .inl ⟨_, rfl, X.kV⟩, ?_⟩
  refine ⟨_, rfl, ea, C_NotSpread, _, false, rfl, hE, X.at_, X.cl, .inr ⟨_, rfl, X.k1⟩, _, rfl, ?_⟩
  refine iteF ?_
  refine ⟨_, rfl, ea, C_NotSpread, _, false, rfl, hE, X.at_, X.cl, .inr ⟨_, rfl, X.k2⟩, _, rfl, ?_⟩
  refine iteF ?_
  refine ⟨_, rfl, ea, C_NotSpread, _, false, rfl, hE, X.at_, X.cl, .inr ⟨_, rfl, X.k3⟩, ?_⟩
  refine ⟨_, rfl, _, rfl, ?_⟩
  refine iteT ?_
  exact ⟨_, rfl, _, rfl, k _ g3⟩
end
end Lw
namespace Lw
open PySem L2 Tb Rl
local macro_rules | `(tactic| walk_at "rd") => `(tactic| repeat (first | refine ⟨_, _, rfl, rfl, ⟨by decide, by decide, by decide⟩, ?_⟩ | refine ⟨_, _, rfl, rfl, ⟨by decide, by decide⟩, ?_⟩ | refine ⟨_, _, rfl, rfl, (by show (0 : Int) < _; decide +kernel), ?_⟩ | refine ⟨_, _, rfl, rfl, ?_⟩ | refine ⟨_, rfl, ?_⟩ | refine ⟨(rfl : scal _ _ = true), ?_⟩))
section
variable {P : Program} {w : World} {K : PySem.W.Frag} {mg : Str → Option Value} {base : Heap}
abbrev s_law : Stmt := top 31
theorem sc_law : FnScope ["_law_script", "_law_first", "_law_second", "_law_many_here", "_law_most", "_law_told_here", "_law_plain_here", "_law_step_here", "_law_ruler", "_law_at"] ["_law_script"] (defScope s_law) := ⟨rfl, rfl, rfl, by decide +kernel, rfl, by decide +kernel, by decide +kernel⟩
def sp_law (K : PySem.W.Frag) : Sp := fun vs H Q _ => ∃ (a : Addr) (ns : List Int), vs = [.ref a] ∧ SqL K H a (ns.map V.int) ∧ ns.length ≤ 63 ∧ ∀ H', Q (.bl true) H'
theorem k_law {f C : Addr} {fd : FuncData} (B : Bl K mg) (F : Fun K "law" "law" s_law f fd) (D__law_cell_at : Def P w K mg base "_law_cell_at" 1 ["_law_script", "_law_k"] (sp_cell K)) (D__law_told : Def P w K mg base "_law_told" 1 ["_law_cells", "_law_most"] (sp_told K))
    (D__law_plain : Def P w K mg base "_law_plain" 2 ["_law_cells"] (sp_plainrow K)) (D__law_many : Def P w K mg base "_law_many" 1 ["_law_cell"] sp_many) (D__law_step : Def P w K mg base "_law_step" 1 ["_law_cell"] sp_step)
    (D_Ruler : CDef P w K mg base "Ruler" C 2 ["self", "told", "step"] [] (sp_init K C)) (D_Ruler_d1 : CDef P w K mg base "Ruler" C 2 ["self", "told", "step"] [.int 8] (sp_init K C))
    (D_pressed : Def P w K mg base "pressed" 3 ["row", "ruler"] (sp_pressed C)) (D__law_refused : Def P w K mg base "_law_refused" 4 ["_law_row", "_law_ruler"] sp_refused) (D__law_tight : Def P w K mg base "_law_tight" 3 ["_law_found", "_law_plain_here", "_law_told_here", "_law_step_here"] (sp_tight K)) :
    FnOk P w K mg base CX0 5 f fd ["_law_script"] (sp_law K) := by
  refine F.ok sc_law (fun vs H Q E h => ?_) (fun cdv A outer s H vs Q E hr h => ?_)
  · obtain ⟨a, ns, rfl, _⟩ := h
    rfl
  obtain ⟨a, ns, rfl, hS, h63, q⟩ := h
  refine ⟨_, (pss_cons (ps_set (i := 1) sc_law.nd rfl (Or.inl rfl) (pe_def D__law_cell_at (hr.mono (by decide)) (pa_cons (pv 0) (pa_cons pe_int pa_nil))))
      (pss_cons (ps_set (i := 2) sc_law.nd rfl (Or.inl rfl) (pe_def D__law_cell_at (hr.mono (by decide)) (pa_cons (pv 0) (pa_cons pe_int pa_nil))))
      (pss_cons (ps_set (i := 3) sc_law.nd rfl (Or.inl rfl) (pe_op op_mod (pv 1) pe_int))
      (pss_cons (ps_set (i := 4) sc_law.nd rfl (Or.inl rfl) pe_int)
      (pss_cut (ps_if (pt_cmpR op_eq (pe_op op_mod (pe_op op_fdiv (pv 1) pe_int) pe_int) pe_int (nomark _))
        (pss_one (ps_set (i := 4) sc_law.nd rfl (Or.inl rfl) pe_int))
        pss_nil)
      (pss_cons (ps_set (i := 5) sc_law.nd rfl (Or.inl rfl) (pe_def D__law_told (hr.mono (by decide)) (pa_cons (pe_slice sl_list (pv 0) (po_some pe_int) (po_some (pe_op op_add pe_int (pv 3)))) (pa_cons (pv 4) pa_nil))))
      (pss_cut (ps_if (pt_cmpR op_eq (pe_op op_mod (pe_op op_fdiv (pv 1) pe_int) pe_int) pe_int (nomark _))
        (pss_one (ps_set (i := 5) sc_law.nd rfl (Or.inl rfl) (pe_def D__law_many (hr.mono (by decide)) (pa_cons (pe_op op_fdiv (pv 2) pe_int) pa_nil))))
        pss_nil)
      (pss_cons (ps_set (i := 6) sc_law.nd rfl (Or.inl rfl) (pe_def D__law_plain (hr.mono (by decide)) (pa_cons (pe_slice sl_list (pv 0) (po_some (pe_op op_add pe_int (pv 3))) (po_some pe_int)) pa_nil)))
      (pss_cons (ps_set (i := 7) sc_law.nd rfl (Or.inl rfl) (pe_def D__law_step (hr.mono (by decide)) (pa_cons (pv 2) pa_nil)))
      (pss_cons (ps_set (i := 8) sc_law.nd rfl (Or.inl rfl) (pe_cdef D_Ruler (hr.mono (by decide)) (pa_cons (pe_callTy call_list_of rfl B.list bt_list (pa_cons (pv 5) pa_nil)) (pa_cons (pv 7) pa_nil))))
      (pss_cut (ps_if (pt_cmpR op_eq (pv 7) pe_int (nomark _))
        (pss_one (ps_set (i := 8) sc_law.nd rfl (Or.inl rfl) (pe_cdef D_Ruler_d1 (hr.mono (by decide)) (pa_cons (pe_callTy call_list_of rfl B.list bt_list (pa_cons (pv 5) pa_nil)) pa_nil))))
        pss_nil)
      (pss_cut (ps_if (pt_cmpR op_eq (pe_op op_mod (pe_op op_fdiv (pv 1) pe_int) pe_int) pe_int (nomark _))
        (pss_cons (ps_set (i := 9) sc_law.nd rfl (Or.inl rfl) (pe_op op_mod (pe_op op_fdiv (pv 2) pe_int) (pe_op op_add (pe_callB call_lenS rfl B.len bt_len (pa_cons (pv 6) pa_nil)) pe_int)))
      (pss_one (ps_if (pt_not (pt_truth (pe_def D__law_refused (hr.mono (by decide)) (pa_cons (pe_op op_addS (pe_op op_addS (pe_slice sl_str (pv 6) po_none (po_some (pv 9))) (pe_lit lit_tab)) (pe_slice sl_str (pv 6) (po_some (pv 9)) po_none)) (pa_cons (pv 8) pa_nil))) (fun _ => rfl)))
        (pss_one (ps_ret pe_bl))
        pss_nil)))
        pss_nil)
      (pss_one (ps_ret (pe_def D__law_tight (hr.mono (by decide)) (pa_cons (pe_def D_pressed (hr.mono (by decide)) (pa_cons (pv 6) (pa_cons (pv 8) pa_nil))) (pa_cons (pv 6) (pa_cons (pv 5) (pa_cons (pv 7) pa_nil))))))))))))))))))), ?_⟩
  have hB := big_pos
  have e70 : (10 : Int) ^ 62 + 10001 * 10 ^ 60 < 10 ^ 70 := by decide +kernel
  refine ⟨_, rfl, a, ns, 0, rfl, hS, Int.le_refl 0, fun first => ?_⟩
  refine ⟨_, rfl, a, ns, 1, rfl, hS, by decide, fun second => ?_⟩
  walk_at "rd"
  refine ⟨(fun σ' H' => H' = H ∧ ∃ mo : Int, σ' = [some (.ref a), some (.int first), some (.int second), some (.int (first % 7)), some (.int mo), none, none, none, none, none] ∧ 0 < mo ∧ mo ≤ 40) , fun R hR => ?_, ?_⟩
  · walk_at "rd"
    refine ite2 (fun z => ?_) (fun z => ?_)
    · exact hR _ _ ⟨rfl, 40, rfl, by decide, by decide⟩
    · exact hR _ _ ⟨rfl, 9, rfl, by decide, by decide⟩
  rintro σ' H' ⟨rfl, mo, rfl, m0, m1⟩
  walk_at "rd"
  refine ⟨a, _, rfl, hS, fun p1 hp1 => ?_⟩
  obtain ⟨ms, em, hml⟩ := cut_ints ns (some 2) (some (2 + first % 7))
  refine ⟨_, rfl, p1, ms, mo, rfl, SqL.of (by rw [← em]; exact upd_same), by omega, m0, m1, fun r ts H1 g1 hr1 hR1 hl1 hb1 => ?_⟩
  have g1' : Same H' H1 := (same_upd hp1).trans g1
  refine ⟨(fun σ' H2 => ∃ (r : Addr) (ts : List Int), σ' = [some (.ref a), some (.int first), some (.int second), some (.int (first % 7)), some (.int mo), some (.ref r), none, none, none, none] ∧ Same H' H2 ∧ H2 r = some (.lst (ts.map V.int)) ∧ Rise 0 ts ∧ ts.length ≤ 63 ∧ lastOf ts ≤ 10 ^ 62) , fun R hR => ?_, ?_⟩
  · walk_at "rd"
    refine ite2 (fun z => ?_) (fun z => ?_)
    · walk_at "rd"
      refine fun r ts H3 g3 hr3 hR3 hl3 hb3 => ?_
      exact hR _ _ ⟨r, ts, rfl, g1'.trans g3, hr3, hR3, hl3, hb3⟩
    · exact hR _ _ ⟨r, ts, rfl, g1', hr1, hR1, hl1, hb1⟩
  clear g1' hb1 hl1 hR1 hr1 g1 hml em ms hp1 p1
  rintro σ' H2 ⟨r, ts, rfl, g2, hr2, hR2, hl2, hb2⟩
  walk_at "rd"
  refine ⟨a, _, rfl, g2.seq hS, fun p2 hp2 => ?_⟩
  obtain ⟨ms2, em2, hml2⟩ := cut_ints ns (some (2 + first % 7)) (some 64)
  refine ⟨p2, ms2, rfl, SqL.of (by rw [← em2]; exact upd_same), fun l hl h9 => ?_⟩
  have hr3 := same_upd (o := .lst (cutV (ns.map V.int) (some (2 + first % 7)) (some 64))) hp2 _ _ hr2
  generalize upd H2 p2 (.lst (cutV (ns.map V.int) (some (2 + first % 7)) (some 64))) = H3 at hr3
  refine ⟨_, rfl, second, rfl, fun st h0 h1 => ?_⟩
  have hst : st < BIG := by omega
  have hts : lastOf ts < BIG := by omega
  refine ⟨_, rfl, r, _, rfl, .inl (SqL.of hr3), fun l1 hl1 => ?_⟩
  refine ⟨_, rfl, fun x dx nx ndx _ => init_told (H := upd H3 l1 (.lst (ts.map V.int))) upd_same hR2 h0 hst hts (Same.refl _) nx ndx fun H4 gx hA => ⟨rfl, ?_⟩⟩
  have g4 : Same H3 H4 := (same_upd hl1).trans gx
  refine ⟨(fun σ' H' => ∃ (x : Addr), σ' = [some (.ref a), some (.int first), some (.int second), some (.int (first % 7)), some (.int mo), some (.ref r), some (.str (tx l)), some (.int st), some (.ref x), none] ∧ Same H3 H' ∧ RulerAt C H' x ts st) , fun R hR => ?_, ?_⟩
  · walk_at "rd"
    refine ite2 (fun z => ?_) (fun z => ?_)
    · have z' : st = 8 := V.int.inj (of_decide_eq_true z)
      refine ⟨_, rfl, r, _, rfl, .inl (SqL.of (g4 _ _ hr3)), fun l2 hl2 => ?_⟩
      subst z'
      refine fun y dy ny ndy _ => init_told (H := upd H4 l2 (.lst (ts.map V.int))) upd_same hR2 h0 hst hts (Same.refl _) ny ndy fun H5 gy hA2 => ⟨rfl, ?_⟩
      exact hR _ _ ⟨y, rfl, g4.trans ((same_upd hl2).trans gy), hA2⟩
    · exact hR _ _ ⟨x, rfl, g4, hA⟩
  clear hA g4 gx
  rintro σ' H5 ⟨x, rfl, g5, hA⟩
  refine ⟨(fun σ' H' => ∃ v, σ' = [some (.ref a), some (.int first), some (.int second), some (.int (first % 7)), some (.int mo), some (.ref r), some (.str (tx l)), some (.int st), some (.ref x), v] ∧ Same H5 H') , fun R hR => ?_, ?_⟩
  · walk_at "rd"
    refine ite2 (fun z => ?_) (fun z => ?_)
    · have hm0 := Int.emod_nonneg (second / 27) (show ((l.length : Nat) : Int) + 1 ≠ 0 by omega)
      have hm1 := Int.emod_lt_of_pos (second / 27) (show (0 : Int) < ((l.length : Nat) : Int) + 1 by omega)
      walk_at "rd"
      refine ⟨by omega, _, _, rfl, rfl, _, _, rfl, rfl, (by show (0 : Int) < _; omega), ?_⟩
      obtain ⟨n, hn⟩ : ∃ n : Nat, second / 27 % (((l.length : Nat) : Int) + 1) = (n : Int) := Int.eq_ofNat_of_zero_le hm0
      refine ⟨_, rfl, _, rfl, (n : Int), congrArg V.int hn, l, rfl, by omega, ?_⟩
      rw [cutN_to]
      refine ⟨l.take n, [9], rfl, rfl, by simp; omega, ?_⟩
      refine ⟨_, rfl, _, rfl, (n : Int), congrArg V.int hn, l, rfl, by omega, ?_⟩
      rw [cutN_from (by omega)]
      refine ⟨l.take n ++ [9], l.drop n, rfl, rfl, by simp; omega, ?_⟩
      refine ⟨_, rfl, _, x, rfl, by simp, fun H6 g6 => ⟨_, rfl, ?_⟩⟩
      exact iteF (hR _ _ ⟨_, rfl, g6⟩)
    · exact hR _ _ ⟨none, rfl, Same.refl _⟩
  rintro σ' H6 ⟨v, rfl, g6⟩
  refine ⟨_, rfl, _, rfl, l, x, ts, st, rfl, hA.same g6, by omega, h9, fun H7 g7 => ?_⟩
  have hr7 := ((g5.trans g6).trans g7) _ _ hr3
  exact ⟨_, rfl, _, rfl, _, rfl, _, l, r, ts, st, rfl, hr7, hl2, hR2, h0, hst, hts, by omega, tight_prs (nx_nx hR2 h0) h9 _ 0 [] (Nat.le_refl _) (Nat.zero_le _) (.inr rfl), fun H8 _ => q H8⟩
end
end Lw
namespace Lw
open PySem L2 Tb Rl
theorem all_mk {l : PySem.W.OpenLaw} {w : World} {K : PySem.W.Frag} {h : Heap} {mg : Str → Option Value} {fa C f1 T C_BadStops C_StopsError C_NotSpread C_TooWide C_NoGap : Addr} (X : K.In h) (G : h.Ns mainGlobals mg) (hfa : mg "law" = some (.ref fa))
    {od1 an1 td : Option Addr} {sl1 ts : Array (Option Value)} {oc1 kV1 dc1 pm1 cd1 ct1 tc : Value} {tk : Tok} {n : Nat} {xd_NotSpread : Option Addr} {xs_NotSpread : Array (Option Value)} {xk_NotSpread : Value} {xc_NotSpread : ClassData} {tk_BLANK : Tok} {tk_JUMP : Tok}
    (aC : PySem.W.nsIn K mainGlobals "Ruler" = some (some (.ref C)))
    (a1 : PySem.W.findIn K (.ref C) "__init__" = some (some (.ref f1)))
    (i1 : PySem.W.isFn K (.ref f1) = true)
    (l1 : K.lookup f1 = some ⟨oc1, od1, .func (PySem.W.fnOf "__init__" "Ruler.__init__" (defArgs s_Ruler___init__) (defBody s_Ruler___init__) (defScope s_Ruler___init__) (.ref T) kV1 dc1 pm1 an1 cd1 ct1), sl1⟩)
    (c1 : PySem.W.codeIn K cd1 "Ruler.__init__" = true)
    (t1 : K.lookup T = some ⟨tc, td, .seq #[.int 8 tk] n, ts⟩)
    (pg : PySem.W.plainGet K C Str.empty = true)
    (hd : PySem.W.hasDictIn K C = true)
    (po : PySem.W.plainOver K C = true)
    (sa : PySem.W.findIn K (.ref C) "__setattr__" = some (some (.builtin "object.__setattr__")))
    (mk : PySem.W.makesIn K C = true)
    (kc : PySem.W.keepIn K (.ref C) = true)
    (nT : PySem.W.findIn K (.ref C) "told" = some none)
    (nS : PySem.W.findIn K (.ref C) "step" = some none)
    (nL : PySem.W.findIn K (.ref C) "last" = some none)
    (m_BadStops : PySem.W.nsIn K mainGlobals "BadStops" = some (some (.ref C_BadStops)))
    (m_StopsError : PySem.W.nsIn K mainGlobals "StopsError" = some (some (.ref C_StopsError)))
    (m_NotSpread : PySem.W.nsIn K mainGlobals "NotSpread" = some (some (.ref C_NotSpread)))
    (m_TooWide : PySem.W.nsIn K mainGlobals "TooWide" = some (some (.ref C_TooWide)))
    (m_NoGap : PySem.W.nsIn K mainGlobals "NoGap" = some (some (.ref C_NoGap)))
    (xi_NotSpread : PySem.W.excIn K C_NotSpread vErr "ValueError.__new__" = true)
    (xl_NotSpread : K.lookup C_NotSpread = some ⟨xk_NotSpread, xd_NotSpread, .cls xc_NotSpread, xs_NotSpread⟩)
    (xa_NotSpread : PySem.W.findIn K (.ref C_NotSpread) "__getattribute__" = some (some (.builtin "BaseException.__getattribute__")))
    (xb_NotSpread : PySem.W.findIn K (.ref C_NotSpread) "__getattr__" = some none)
    (xc2_NotSpread : PySem.W.findIn K (.ref C_NotSpread) "__class__" = some (some (.builtin "object.__class__")))
    (xd2_NotSpread : PySem.W.specialIn K (.builtin "object.__class__") "__get__" = some (some (.builtin "getset_descriptor.__get__")))
    (xe_NotSpread : PySem.W.takesIn K (.builtin "object.__class__") = some true)
    (xf_NotSpread : PySem.W.mroIn K C_NotSpread (.type "object") = some true)
    (xg_NotSpread : PySem.W.mroIn K C_NotSpread (.type "BaseException") = some true)
    (kE_NotSpread : PySem.W.exmOne K (.ref C_NotSpread) (.ref C_StopsError) = some true)
    (kV_NotSpread : PySem.W.kitOne K (.ref C_NotSpread) (.type "ValueError") = some true)
    (k1_NotSpread : PySem.W.kitOne K (.ref C_NotSpread) (.ref C_BadStops) = some false)
    (k2_NotSpread : PySem.W.kitOne K (.ref C_NotSpread) (.ref C_TooWide) = some false)
    (k3_NotSpread : PySem.W.kitOne K (.ref C_NotSpread) (.ref C_NoGap) = some false)
    (g_BLANK : PySem.W.nsIn K mainGlobals "BLANK" = some (some (.str (Str.ofString " ") tk_BLANK)))
    (g_JUMP : PySem.W.nsIn K mainGlobals "JUMP" = some (some (.str (Str.ofString "\t") tk_JUMP)))
    (h_Ruler_next_stop : HasM K C "next_stop" "Ruler.next_stop" s_Ruler_next_stop ["self", "column"])
    (h_check_told : Has K mg "check_told" s_check_told ["told"])
    (h_check_step : Has K mg "check_step" s_check_step ["step"])
    (h_least_greater : Has K mg "least_greater" s_least_greater ["rising", "column"])
    (h_check_plain : Has K mg "check_plain" s_check_plain ["row"])
    (h_pressed_part : Has K mg "pressed_part" s_pressed_part ["part"])
    (h_pressed : Has K mg "pressed" s_pressed ["row", "ruler"])
    (h__law_cell_at : Has K mg "_law_cell_at" s__law_cell_at ["_law_script", "_law_k"])
    (h__law_told : Has K mg "_law_told" s__law_told ["_law_cells", "_law_most"])
    (h__law_many : Has K mg "_law_many" s__law_many ["_law_cell"])
    (h__law_step : Has K mg "_law_step" s__law_step ["_law_cell"])
    (h__law_sign : Has K mg "_law_sign" s__law_sign ["_law_cell"])
    (h__law_plain : Has K mg "_law_plain" s__law_plain ["_law_cells"])
    (h__law_is_stop : Has K mg "_law_is_stop" s__law_is_stop ["_law_told_here", "_law_step_here", "_law_column"])
    (h__law_next : Has K mg "_law_next" s__law_next ["_law_told_here", "_law_step_here", "_law_column"])
    (h__law_jumped : Has K mg "_law_jumped" s__law_jumped ["_law_plain_here", "_law_told_here", "_law_step_here", "_law_before", "_law_ahead", "_law_column"])
    (h__law_kept : Has K mg "_law_kept" s__law_kept ["_law_plain_here", "_law_told_here", "_law_step_here", "_law_pair", "_law_ahead"])
    (h__law_tight : Has K mg "_law_tight" s__law_tight ["_law_found", "_law_plain_here", "_law_told_here", "_law_step_here"])
    (h__law_refused : Has K mg "_law_refused" s__law_refused ["_law_row", "_law_ruler"])
    (h_law : Has K mg "law" s_law ["_law_script"])
    (z_len : PySem.W.nsIn K mainGlobals "len" = some none)
    (z_tuple : PySem.W.nsIn K mainGlobals "tuple" = some none)
    (z_list : PySem.W.nsIn K mainGlobals "list" = some none)
    (z_isinstance : PySem.W.nsIn K mainGlobals "isinstance" = some none)
    (z_int : PySem.W.nsIn K mainGlobals "int" = some none)
    (z_bool : PySem.W.nsIn K mainGlobals "bool" = some none)
    (z_str : PySem.W.nsIn K mainGlobals "str" = some none)
    (z_max : PySem.W.nsIn K mainGlobals "max" = some none)
    (z_range : PySem.W.nsIn K mainGlobals "range" = some none)
    (z_zip : PySem.W.nsIn K mainGlobals "zip" = some none)
    (z_ValueError : PySem.W.nsIn K mainGlobals "ValueError" = some none)
    (kib : PySem.W.kitOne K (.type "int") (.type "bool") = some false) :
    ∃ fd : FuncData, (∀ (s : Shared) (v : Value), BindsTo s fd ⟨[v], []⟩ [("_law_script", v)]) ∧ ∀ base : Heap, K.In base → base.Ns mainGlobals mg → FnOk l.prog w K mg base CX0 5 fa fd ["_law_script"] (sp_law K) := by
  have B : Bl K mg := { len := PySem.W.mg_none_of X G z_len, tuple := PySem.W.mg_none_of X G z_tuple, list := PySem.W.mg_none_of X G z_list, isinstance := PySem.W.mg_none_of X G z_isinstance, int := PySem.W.mg_none_of X G z_int, bool := PySem.W.mg_none_of X G z_bool, str := PySem.W.mg_none_of X G z_str, max := PySem.W.mg_none_of X G z_max, range := PySem.W.mg_none_of X G z_range, zip := PySem.W.mg_none_of X G z_zip, «ValueError» := PySem.W.mg_none_of X G z_ValueError, kib := kib }
  have T' : RTxt K mg C := ⟨⟨pg, hd, po, sa⟩, nT, nS, nL⟩
  have mgC := PySem.W.mg_of X G aC
  have NM5 : NMs mg C_BadStops C_StopsError C_NotSpread C_TooWide C_NoGap := ⟨⟨PySem.W.mg_of X G m_BadStops⟩, ⟨PySem.W.mg_of X G m_StopsError⟩, ⟨PySem.W.mg_of X G m_NotSpread⟩, ⟨PySem.W.mg_of X G m_TooWide⟩, ⟨PySem.W.mg_of X G m_NoGap⟩⟩
  have XB_NotSpread : XB K mg "NotSpread" C_NotSpread := ⟨xi_NotSpread, PySem.W.mg_of X G m_NotSpread⟩
  have XR_NotSpread : XR K C_NotSpread C_StopsError C_BadStops C_TooWide C_NoGap := ⟨⟨xa_NotSpread, xb_NotSpread, xc2_NotSpread, xd2_NotSpread, xe_NotSpread, xf_NotSpread, xg_NotSpread⟩, ⟨_, _, _, _, xl_NotSpread⟩, kE_NotSpread, kV_NotSpread, k1_NotSpread, k2_NotSpread, k3_NotSpread⟩
  have GL : Glb mg := { BLANK := ⟨_, PySem.W.mg_of X G g_BLANK, ⟨tk_BLANK, congrArg (fun z => Value.str z tk_BLANK) lit_blank⟩⟩, JUMP := ⟨_, PySem.W.mg_of X G g_JUMP, ⟨tk_JUMP, congrArg (fun z => Value.str z tk_JUMP) lit_tab⟩⟩ }
  have F1 := funD_mk (ds := [.int 8 tk]) l1 c1 t1
  have b3 : Binds K _ ["self", "told", "step"] [] := F1.binds fun T kV doc pm an cdv ct us hl => match us, hl with | [_, _, _], _ => by first | exact .inl rfl | exact .inr ⟨_, rfl, rfl⟩
  have b2 : Binds K _ ["self", "told", "step"] [.int 8 tk] := F1.binds fun T kV doc pm an cdv ct us hl => match us, (show us.length = 2 by simpa using hl) with | [_, _], _ => by first | exact .inr ⟨_, rfl, rfl⟩ | exact .inl rfl
  obtain ⟨f16, fd16, F16, m16, bb16⟩ := id h_law
  have e := hfa.symm.trans m16
  cases e
  refine ⟨fd16, fun s v => ?_, fun base kb nb => ?_⟩
  · obtain ⟨oc, od, kV, doc, pm, an, cdv, ct, osl, rfl, _⟩ := F16.ex
    exact .of_eq rfl
  · have D4 := d_check_told (P := l.prog) (w := w) (base := base) h_check_told
    have D5 := d_check_step (P := l.prog) (w := w) (base := base) h_check_step
    have D6 := d_least_greater (P := l.prog) (w := w) (base := base) B.toBlt h_least_greater
    have O1 := k_init (P := l.prog) (w := w) (base := base) B.toBlt T' F1 D4 D5
    have M : Mk K C f1 := ⟨mk, a1, i1, kc⟩
    have DR : CDef l.prog w K mg base "Ruler" C 2 ["self", "told", "step"] [] (sp_init K C) := ⟨f1, _, [], mgC, M, b3, .nil, O1⟩
    have DR1 : CDef l.prog w K mg base "Ruler" C 2 ["self", "told", "step"] [.int 8] (sp_init K C) := ⟨f1, _, [.int 8 tk], mgC, M, b2, .cons ⟨tk, rfl⟩ .nil, O1⟩
    have D2 := d_next (P := l.prog) (w := w) (base := base) B.toBlt T' h_Ruler_next_stop D6
    have Dp := d_check_plain (P := l.prog) (w := w) (base := base) GL h_check_plain
    have Dpx := x_check_plain (P := l.prog) (w := w) (base := base) GL XB_NotSpread h_check_plain
    have Dq := d_part (P := l.prog) (w := w) (base := base) B.toBlt GL h_pressed_part
    have Dr := d_pressed (P := l.prog) (w := w) (base := base) B.toBlt h_pressed Dp Dq D2
    have Drx := x_pressed (P := l.prog) (w := w) (base := base) B.toBlt h_pressed Dpx Dq D2
    have L1 := d_cell (P := l.prog) (w := w) (base := base) B h__law_cell_at
    have L3 := d_told (P := l.prog) (w := w) (base := base) h__law_told
    have L4 := d_many (P := l.prog) (w := w) (base := base) B h__law_many
    have L5 := d_step (P := l.prog) (w := w) (base := base) h__law_step
    have L6 := d_sign (P := l.prog) (w := w) (base := base) B h__law_sign
    have L7 := d_plainrow (P := l.prog) (w := w) (base := base) B h__law_plain L6
    have L9 := d_is_stop (P := l.prog) (w := w) (base := base) h__law_is_stop
    have L10 := d_nextL (P := l.prog) (w := w) (base := base) h__law_next
    have L11 := d_jumped (P := l.prog) (w := w) (base := base) B h__law_jumped L9
    have L12 := d_kept (P := l.prog) (w := w) (base := base) B h__law_kept L9
    have L13 := d_tight (P := l.prog) (w := w) (base := base) B h__law_tight L10 L11 L12
    have L14 := d_refused (P := l.prog) (w := w) (base := base) B NM5 XR_NotSpread h__law_refused Drx
    exact k_law (P := l.prog) (w := w) (base := base) B F16 L1 L3 L7 L4 L5 DR DR1 Dr L14 L13
theorem walk {l : PySem.W.OpenLaw} {q : Program} {loose : List Str} {XP : (Str → Option Value) → Heap → Prop} {YP : World → Heap → Prop} {d : DefRec} {K : Params → PySem.W.Frag} (hn : l.most = some 63) (hdf : d.params.defaults = [])
    (hY : ∀ (w : World) (h : Heap), YP w h → (K w.params).In h)
    (F : ∀ (w : World) (mg : Str → Option Value) (fa : Addr) (h : Heap), (K w.params).In h → h.Ns mainGlobals mg → mg d.name = some (.ref fa) →
      ∃ fd : FuncData, (∀ (s : Shared) (u : Value), BindsTo s fd ⟨[u], []⟩ [("_law_script", u)]) ∧ ∀ base : Heap, (K w.params).In base → base.Ns mainGlobals mg → FnOk l.prog w (K w.params) mg base CX0 5 fa fd ["_law_script"] (sp_law (K w.params))) :
    PySem.W.WalkO q loose XP YP l.row.toRowW d [] (fun f vs => PySem.call f vs) :=
  L2.walk_of (n := 63) (k := 5) (x := "_law_script") (CX := fun _ => CX0) (sp := fun w => sp_law (K w.params)) hn (by decide) hdf ⟨rfl, by decide, by decide⟩ hY F (fun _ _ a ns hl _ hS => ⟨a, ns, rfl, hS, hl, fun _ => rfl⟩) fun _ _ _ _ _ z => z
end Lw

open PySem PySem.W PyProof.Rows
set_option maxRecDepth 100000 in
set_option maxHeartbeats 0 in
theorem PySem.Challenge.cw_tabstops_k04_pressed_rows_holds : PySem.Challenge.rw_tabstops_k04_pressed_rows.Holds := by
  w_on; o_law; k_head; (case hw => w_witness2)
  k_fill
  refine Lw.walk (l := PySem.Challenge.rw_tabstops_k04_pressed_rows) rfl rfl (fun w h Y => PySem.W.kIn_of Y) ?F
  case F =>
    intro w mg fa h KX G hmg
    refine' Lw.all_mk KX G hmg ?aC ?a1 ?i1 ?l1 ?c1 ?t1 ?pg ?hd ?po ?sa ?mk ?kc ?nT ?nS ?nL ?m_BadStops ?m_StopsError ?m_NotSpread ?m_TooWide ?m_NoGap ?xi_NotSpread ?xl_NotSpread ?xa_NotSpread ?xb_NotSpread ?xc2_NotSpread ?xd2_NotSpread ?xe_NotSpread ?xf_NotSpread ?xg_NotSpread ?kE_NotSpread ?kV_NotSpread ?k1_NotSpread ?k2_NotSpread ?k3_NotSpread ?g_BLANK ?g_JUMP ?h_Ruler_next_stop ?h_check_told ?h_check_step ?h_least_greater ?h_check_plain ?h_pressed_part ?h_pressed ?h__law_cell_at ?h__law_told ?h__law_many ?h__law_step ?h__law_sign ?h__law_plain ?h__law_is_stop ?h__law_next ?h__law_jumped ?h__law_kept ?h__law_tight ?h__law_refused ?h_law ?z_len ?z_tuple ?z_list ?z_isinstance ?z_int ?z_bool ?z_str ?z_max ?z_range ?z_zip ?z_ValueError ?kib
    (case aC => k_is)
    (case a1 => k_is)
    (case i1 => k_is)
    (case l1 => k_is)
    (case c1 => k_is)
    (case t1 => k_is)
    (case pg => k_is)
    (case hd => k_is)
    (case po => k_is)
    (case sa => k_is)
    (case mk => k_is)
    (case kc => k_is)
    (case nT => k_is)
    (case nS => k_is)
    (case nL => k_is)
    (case m_BadStops => k_is)
    (case m_StopsError => k_is)
    (case m_NotSpread => k_is)
    (case m_TooWide => k_is)
    (case m_NoGap => k_is)
    (case xi_NotSpread => k_exc)
    (case xl_NotSpread => k_is)
    (case xa_NotSpread => k_is)
    (case xb_NotSpread => k_is)
    (case xc2_NotSpread => k_is)
    (case xd2_NotSpread => k_is)
    (case xe_NotSpread => k_is)
    (case xf_NotSpread => k_is)
    (case xg_NotSpread => k_is)
    (case kE_NotSpread => first | k_is | kit_is | rfl)
    (case kV_NotSpread => first | k_is | kit_is)
    (case k1_NotSpread => first | k_is | kit_is)
    (case k2_NotSpread => first | k_is | kit_is)
    (case k3_NotSpread => first | k_is | kit_is)
    (case g_BLANK => k_is)
    (case g_JUMP => k_is)
    (case h_Ruler_next_stop => refine' L2.hasM_mk ?a ?i ?l ?c ?k ?b; (case a => k_is); (case i => k_is); (case l => k_is); (case c => k_is); (case k => k_is); (case b => exact fun _ _ _ _ _ _ us hl => match us, hl with | [_, _], _ => rfl))
    (case h_check_told => refine' L2.has_mk KX G ?a ?l ?c ?k ?b; (case a => k_is); (case l => k_is); (case c => k_is); (case k => k_is); (case b => exact fun _ _ _ _ _ _ us hl => match us, hl with | [_], _ => rfl))
    (case h_check_step => refine' L2.has_mk KX G ?a ?l ?c ?k ?b; (case a => k_is); (case l => k_is); (case c => k_is); (case k => k_is); (case b => exact fun _ _ _ _ _ _ us hl => match us, hl with | [_], _ => rfl))
    (case h_least_greater => refine' L2.has_mk KX G ?a ?l ?c ?k ?b; (case a => k_is); (case l => k_is); (case c => k_is); (case k => k_is); (case b => exact fun _ _ _ _ _ _ us hl => match us, hl with | [_, _], _ => rfl))
    (case h_check_plain => refine' L2.has_mk KX G ?a ?l ?c ?k ?b; (case a => k_is); (case l => k_is); (case c => k_is); (case k => k_is); (case b => exact fun _ _ _ _ _ _ us hl => match us, hl with | [_], _ => rfl))
    (case h_pressed_part => refine' L2.has_mk KX G ?a ?l ?c ?k ?b; (case a => k_is); (case l => k_is); (case c => k_is); (case k => k_is); (case b => exact fun _ _ _ _ _ _ us hl => match us, hl with | [_], _ => rfl))
    (case h_pressed => refine' L2.has_mk KX G ?a ?l ?c ?k ?b; (case a => k_is); (case l => k_is); (case c => k_is); (case k => k_is); (case b => exact fun _ _ _ _ _ _ us hl => match us, hl with | [_, _], _ => rfl))
    (case h__law_cell_at => refine' L2.has_mk KX G ?a ?l ?c ?k ?b; (case a => k_is); (case l => k_is); (case c => k_is); (case k => k_is); (case b => exact fun _ _ _ _ _ _ us hl => match us, hl with | [_, _], _ => rfl))
    (case h__law_told => refine' L2.has_mk KX G ?a ?l ?c ?k ?b; (case a => k_is); (case l => k_is); (case c => k_is); (case k => k_is); (case b => exact fun _ _ _ _ _ _ us hl => match us, hl with | [_, _], _ => rfl))
    (case h__law_many => refine' L2.has_mk KX G ?a ?l ?c ?k ?b; (case a => k_is); (case l => k_is); (case c => k_is); (case k => k_is); (case b => exact fun _ _ _ _ _ _ us hl => match us, hl with | [_], _ => rfl))
    (case h__law_step => refine' L2.has_mk KX G ?a ?l ?c ?k ?b; (case a => k_is); (case l => k_is); (case c => k_is); (case k => k_is); (case b => exact fun _ _ _ _ _ _ us hl => match us, hl with | [_], _ => rfl))
    (case h__law_sign => refine' L2.has_mk KX G ?a ?l ?c ?k ?b; (case a => k_is); (case l => k_is); (case c => k_is); (case k => k_is); (case b => exact fun _ _ _ _ _ _ us hl => match us, hl with | [_], _ => rfl))
    (case h__law_plain => refine' L2.has_mk KX G ?a ?l ?c ?k ?b; (case a => k_is); (case l => k_is); (case c => k_is); (case k => k_is); (case b => exact fun _ _ _ _ _ _ us hl => match us, hl with | [_], _ => rfl))
    (case h__law_is_stop => refine' L2.has_mk KX G ?a ?l ?c ?k ?b; (case a => k_is); (case l => k_is); (case c => k_is); (case k => k_is); (case b => exact fun _ _ _ _ _ _ us hl => match us, hl with | [_, _, _], _ => rfl))
    (case h__law_next => refine' L2.has_mk KX G ?a ?l ?c ?k ?b; (case a => k_is); (case l => k_is); (case c => k_is); (case k => k_is); (case b => exact fun _ _ _ _ _ _ us hl => match us, hl with | [_, _, _], _ => rfl))
    (case h__law_jumped => refine' L2.has_mk KX G ?a ?l ?c ?k ?b; (case a => k_is); (case l => k_is); (case c => k_is); (case k => k_is); (case b => exact fun _ _ _ _ _ _ us hl => match us, hl with | [_, _, _, _, _, _], _ => rfl))
    (case h__law_kept => refine' L2.has_mk KX G ?a ?l ?c ?k ?b; (case a => k_is); (case l => k_is); (case c => k_is); (case k => k_is); (case b => exact fun _ _ _ _ _ _ us hl => match us, hl with | [_, _, _, _, _], _ => rfl))
    (case h__law_tight => refine' L2.has_mk KX G ?a ?l ?c ?k ?b; (case a => k_is); (case l => k_is); (case c => k_is); (case k => k_is); (case b => exact fun _ _ _ _ _ _ us hl => match us, hl with | [_, _, _, _], _ => rfl))
    (case h__law_refused => refine' L2.has_mk KX G ?a ?l ?c ?k ?b; (case a => k_is); (case l => k_is); (case c => k_is); (case k => k_is); (case b => exact fun _ _ _ _ _ _ us hl => match us, hl with | [_, _], _ => rfl))
    (case h_law => refine' L2.has_mk KX G ?a ?l ?c ?k ?b; (case a => k_is); (case l => k_is); (case c => k_is); (case k => k_is); (case b => exact fun _ _ _ _ _ _ us hl => match us, hl with | [_], _ => rfl))
    (case z_len => k_is)
    (case z_tuple => k_is)
    (case z_list => k_is)
    (case z_isinstance => k_is)
    (case z_int => k_is)
    (case z_bool => k_is)
    (case z_str => k_is)
    (case z_max => k_is)
    (case z_range => k_is)
    (case z_zip => k_is)
    (case z_ValueError => k_is)
    (case kib => first | k_is | kit_is)
