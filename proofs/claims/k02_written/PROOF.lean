import PyProof.Rows.All
import Wide.All
import OpenK.AllK
import Wide.FinOn
import Lean
import PyProof.EqAt
import PyProof.EqKinds
import PyProof.TupleCall
import PyProof.P3Statements
import PySem.Challenge.RW_twonamed_k02_written
set_option Elab.async false
set_option linter.all false
set_option maxRecDepth 100000
/-! THE HAND LAYER, for ints, bools, texts, own classes, LISTS and tuples (index, slices, in, append, pop ..), calls, loops. Paste it whole ahead of your own text; what your proof does not reach may be deleted. -/
namespace L2
open PySem PySem.Spec PyProof.Rows

/-- a key: an int or a str -/
abbrev Key := Sum Int Str
def keyIs : Key → Value → Bool
  | .inl k, v => Value.isInt k v
  | .inr x, v => Value.isStrOf x v
def keyH (w : World) : Key → Int
  | .inl k => hashInt k
  | .inr x => hashStr w x
theorem keyIs_shape : ∀ {k : Key} {v : Value}, keyIs k v = true → (∃ i t, k = Sum.inl i ∧ v = Value.int i t) ∨ (∃ x t, k = Sum.inr x ∧ v = Value.str x t)
  | .inl i, v, h => by
    obtain ⟨t, e⟩ := Value.isInt_shape (k := i) (v := v) h
    exact .inl ⟨i, t, rfl, e⟩
  | .inr x, v, h => by
    obtain ⟨t, e⟩ := Value.isStrOf_shape (x := x) (v := v) h
    exact .inr ⟨x, t, rfl, e⟩
theorem keyIs_int (i : Int) (t : Tok) : keyIs (.inl i) (.int i t) = true := by simp [keyIs, Value.isInt]
theorem keyIs_str (x : Str) (t : Tok) : keyIs (.inr x) (.str x t) = true := by simp [keyIs, Value.isStrOf]
theorem key_ll (a b : Int) : decide ((Sum.inl a : Key) = Sum.inl b) = (a == b) := by
  by_cases e : a = b
  · subst e; simp
  · have h : ¬ (Sum.inl a : Key) = Sum.inl b := fun q => e (Sum.inl.inj q)
    rw [decide_eq_false h]
    exact (beq_eq_false_iff_ne.mpr e).symm
theorem key_rr (a b : Str) : decide ((Sum.inr a : Key) = Sum.inr b) = decide (a = b) := by
  by_cases e : a = b
  · subst e; simp
  · have h : ¬ (Sum.inr a : Key) = Sum.inr b := fun q => e (Sum.inr.inj q)
    rw [decide_eq_false h, decide_eq_false e]
theorem key_lr (a : Int) (b : Str) : decide ((Sum.inl a : Key) = Sum.inr b) = false := decide_eq_false (fun q => nomatch q)
theorem key_rl (a : Str) (b : Int) : decide ((Sum.inr a : Key) = Sum.inl b) = false := decide_eq_false (fun q => nomatch q)

def mixKind (prog : Program) (w : World) : PySem.KeyKind prog w Key where
  is := keyIs
  hash := keyH w
  inj := fun v a b ha hb => by
    rcases keyIs_shape ha with ⟨i, t, rfl, rfl⟩ | ⟨x, t, rfl, rfl⟩
    · rcases keyIs_shape hb with ⟨j, u, rfl, e⟩ | ⟨y, u, rfl, e⟩
      · injection e with e1 _; rw [e1]
      · exact nomatch e
    · rcases keyIs_shape hb with ⟨j, u, rfl, e⟩ | ⟨y, u, rfl, e⟩
      · exact nomatch e
      · injection e with e1 _; rw [e1]
  byValue := fun k v h => by
    rcases keyIs_shape h with ⟨i, t, rfl, rfl⟩ | ⟨x, t, rfl, rfl⟩ <;> rfl
  pyHash := fun hv h => by
    rcases keyIs_shape hv with ⟨i, t, rfl, rfl⟩ | ⟨x, t, rfl, rfl⟩
    · exact wpAny_pyHash_int h
    · exact wpAny_pyHash_str h
  eqBool := fun hu hv h => by
    rcases keyIs_shape hu with ⟨i, t, rfl, rfl⟩ | ⟨x, t, rfl, rfl⟩
    · rcases keyIs_shape hv with ⟨j, u, rfl, rfl⟩ | ⟨y, u, rfl, rfl⟩
      · rw [key_ll] at h; exact wpAny_eqBool_int h
      · rw [key_lr] at h; exact SeqAt.EqAt.int_str i t y u _ _ _ _ h
    · rcases keyIs_shape hv with ⟨j, u, rfl, rfl⟩ | ⟨y, u, rfl, rfl⟩
      · rw [key_rl] at h; exact SeqAt.EqAt.str_int x t j u _ _ _ _ h
      · rw [key_rr] at h; exact wpAny_eqBool_str h
  «strs» := fun k x t v h => by
    rcases keyIs_shape h with ⟨i, u, rfl, e⟩ | ⟨y, u, rfl, e⟩
    · exact nomatch e
    · injection e with e1 _
      subst e1
      cases v <;> rfl

theorem mixKind_is (prog : Program) (w : World) (k : Key) (v : Value) : (mixKind prog w).is k v = keyIs k v := rfl
theorem mixKind_int (prog : Program) (w : World) (i : Int) (t : Tok) : (mixKind prog w).is (.inl i) (.int i t) = true := keyIs_int i t
theorem mixKind_str (prog : Program) (w : World) (x : Str) (t : Tok) : (mixKind prog w).is (.inr x) (.str x t) = true := keyIs_str x t
end L2

namespace L2
open PySem PySem.Spec PyProof.Rows

/-- a value, without the heap -/
inductive V where
  | non | bl (b : Bool) | int (i : Int) | str (x : Str) | byt (b : Array UInt8) | flt (b : UInt64) | ref (a : Addr) | ty (n : String)
  deriving DecidableEq

def RelV : V → Value → Prop
  | .non, u => u = Value.none
  | .bl b, u => u = Value.bool b
  | .int i, u => ∃ t, u = Value.int i t
  | .str x, u => ∃ t, u = Value.str x t
  | .byt b, u => ∃ t, u = Value.bytes b t
  | .flt b, u => ∃ t, u = Value.float b t
  | .ref a, u => u = Value.ref a
  | .ty n, u => u = Value.type n

abbrev Vals : List V → List Value → Prop := Paired RelV
theorem Vals.length {xs : List V} {us : List Value} (r : Vals xs us) : xs.length = us.length := Paired.length r
theorem Vals.get : ∀ {xs : List V} {us : List Value} {i : Nat} {x : V}, Vals xs us → xs[i]? = some x → ∃ u, us[i]? = some u ∧ RelV x u
  | _, _, _, _, .nil, e => by simp at e
  | _, _, 0, _, .cons r _, e => by simp at e; subst e; exact ⟨_, rfl, r⟩
  | _, _, i + 1, x, .cons _ t, e => by
    obtain ⟨u, h1, h2⟩ := Vals.get (i := i) (x := x) t (by simpa using e)
    exact ⟨u, by simpa using h1, h2⟩
theorem Vals.set {x : V} {u : Value} (r : RelV x u) : ∀ {xs : List V} {us : List Value} (i : Nat), Vals xs us → Vals (xs.set i x) (us.set i u)
  | _, _, _, .nil => .nil
  | _, _, 0, .cons _ t => .cons r t
  | _, _, i + 1, .cons q t => .cons q (Vals.set r i t)
theorem Vals.append : ∀ {xs ys : List V} {us ws : List Value}, Vals xs us → Vals ys ws → Vals (xs ++ ys) (us ++ ws)
  | _, _, _, _, .nil, s => s
  | _, _, _, _, .cons r t, s => .cons r (Vals.append t s)
theorem Vals.take : ∀ {xs : List V} {us : List Value} (n : Nat), Vals xs us → Vals (xs.take n) (us.take n)
  | _, _, 0, _ => .nil
  | _, _, _ + 1, .nil => .nil
  | _, _, n + 1, .cons r t => .cons r (Vals.take n t)
theorem Vals.drop : ∀ {xs : List V} {us : List Value} (n : Nat), Vals xs us → Vals (xs.drop n) (us.drop n)
  | _, _, 0, r => r
  | _, _, _ + 1, .nil => .nil
  | _, _, n + 1, .cons _ t => Vals.drop n t
theorem Vals.none_of : ∀ {xs : List V} {us : List Value} {i : Nat}, Vals xs us → xs[i]? = none → us[i]? = none := fun {xs us i} r e => by
  have h1 := r.length
  have h2 : xs.length ≤ i := List.getElem?_eq_none_iff.mp e
  exact List.getElem?_eq_none_iff.mpr (by omega)

def RelO : Option V → Option Value → Prop
  | some v, some u => RelV v u
  | none, none => True
  | _, _ => False
def KV {κ : Type} : List (κ × V) → List (κ × Value) → Prop := Paired fun (p : κ × V) (q : κ × Value) => p.1 = q.1 ∧ RelV p.2 q.2

/-- a key of a dict (00_mix): an int or a text -/
def kV : Key → V
  | .inl i => .int i
  | .inr x => .str x

/-- what stands at a tracked address -/
inductive HO where
  /-- a list -/
  | lst (xs : List V)
  /-- a tuple (never changes) -/
  | tup (xs : List V)
  /-- a dict whose keys are ints and texts; one whose keys are tuples of ints and texts (the empty one is both) -/
  | dK (kvs : List (Key × V)) | dT (kvs : List (List Key × V))
  /-- a set of ints: its members, its size -/
  | set (S : Int → Bool) (n : Nat)
  /-- an instance of the class at C, its dict at dx, its attributes -/
  | ins (C dx : Addr) (fs : List (Str × V))
  /-- the dict of the instance at x -/
  | own (x : Addr)
  /-- the dict of an exception -/
  | xd (fs : List (Str × V))
  /-- a bound method, f of x -/
  | met (f x : Addr)
  /-- a range object lo, lo + 1, .. below hi -/
  | rng (lo hi : Int)
  /-- a thing that is known to the object (the script; a dict while a loop walks it): read, never written while it is so -/
  | frz (o : Obj) (u : HO)
  /-- a code object's table -/
  | tbl (ps : Array Value)
  /-- any other thing, by what is true of its one object (a def of one's own: SetO a S n := HO.ext fun h => ..) -/
  | ext (φ : Heap → Prop)

abbrev Hp := Addr → Option HO
def upd (H : Hp) (a : Addr) (o : HO) : Hp := fun b => if b = a then some o else H b
theorem upd_same {H : Hp} {a : Addr} {o : HO} : upd H a o a = some o := by unfold upd; rw [if_pos rfl]
theorem upd_ne {H : Hp} {a b : Addr} {o : HO} (h : b ≠ a) : upd H a o b = H b := by unfold upd; rw [if_neg h]
theorem upd_upd {H : Hp} {a : Addr} {o u : HO} : upd (upd H a o) a u = upd H a u := by
  funext b; unfold upd; split <;> rfl
/-- two objects of different content stand apart -/
theorem ne_of {H : Hp} {a b : Addr} {o u : HO} (h : H a = some o) (h' : H b = some u) (d : o ≠ u) : a ≠ b := by
  intro e; subst e; rw [h] at h'; exact d (Option.some.inj h')
theorem ne_of_none {H : Hp} {a b : Addr} {o : HO} (h : H a = some o) (h' : H b = none) : a ≠ b := by
  intro e; subst e; rw [h] at h'; cases h'

section
variable (P : Program) (w : World)
def ObjOk (H : Hp) (h : Heap) (a : Addr) : HO → Prop
  | .lst xs => xs.length ≤ sizeLine ∧ ∃ (its : List Value) (n : Nat), Vals xs its ∧ h.get? a = some { cls := .type "list", data := .seq its.toArray n }
  | .tup xs => xs.length ≤ sizeLine ∧ ∃ its : List Value, Vals xs its ∧ IsTup h a its.toArray
  | .dK kvs => kvs.length ≤ sizeLine ∧ (a == sysModules) = false ∧ ∃ vs, KV kvs vs ∧ h.DictOf (mixKind P w) a vs
  | .dT kvs => kvs.length ≤ sizeLine ∧ (a == sysModules) = false ∧ ∃ xs : List (List Key × Addr × Value),
      Paired (fun (p : List Key × V) (q : List Key × Addr × Value) => p.1 = q.1 ∧ H q.2.1 = some (.tup (p.1.map kV)) ∧ RelV p.2 q.2.2) kvs xs ∧
      ∃ o es ep, h.get? a = some o ∧ o.ExactDict ∧ o.data = .dict es ep ∧ es.toList = xs.map (entryOfKey (tupleKind (mixKind P w))) ∧ (xs.map (·.1)).Nodup
  | .set S n => h.SetOf (intKind P w) a S n
  | .ins C dx fs => H dx = some (.own a) ∧ fs.length ≤ 1000 ∧ dx ≠ a ∧ h.get? a = some (PySem.W.instObj C dx) ∧
      ∃ mA, h.Ns1 dx mA ∧ (∀ f, RelO (fs.lookup f) (mA f)) ∧ PySem.Within mA (fs.map (·.1))
  | .own _ => ∃ o, h.get? a = some o
  | .xd fs => ∃ mA, h.Ns1 a mA ∧ ∀ f, RelO (fs.lookup f) (mA f)
  | .rng lo hi => ∃ t u v, h.get? a = some { cls := .type "range", data := .fields #[.int lo t, .int hi u, .int 1 v] }
  | .frz o u => h.get? a = some o ∧ ObjOk H h a u
  | .tbl ps => h.get? a = some { cls := .none, data := .fields ps }
  | .met f x => h.get? a = some (PySem.W.methodObj (.ref f) (.ref x))
  | .ext φ => φ h ∧ (∃ o, h.get? a = some o) ∧ ∀ h1 h2 : Heap, φ h1 → (∀ o, h1.get? a = some o → h2.get? a = some o) → φ h2
/-- the abstract heap is held -/
def HOk (H : Hp) (h : Heap) : Prop := ∀ a o, H a = some o → ObjOk P w H h a o
end

section
variable {P : Program} {w : World} {H H' : Hp} {h h' : Heap} {a : Addr} {o : HO}
theorem ObjOk.lt (x : ObjOk P w H h a o) : a < h.objs.size := by
  cases o with
  | lst xs => obtain ⟨_, _, _, _, e⟩ := x; exact Heap.lt_size e
  | tup xs => obtain ⟨_, _, _, p⟩ := x; exact p.lt
  | dK kvs => obtain ⟨_, _, _, _, o, _, _, e, _⟩ := x; exact Heap.lt_size e
  | dT kvs => obtain ⟨_, _, _, _, o, _, _, e, _⟩ := x; exact Heap.lt_size e
  | set S n => obtain ⟨o, _, _, _, e, _⟩ := x; exact Heap.lt_size e
  | ins C dx fs => obtain ⟨_, _, _, e, _⟩ := x; exact Heap.lt_size e
  | own y => obtain ⟨_, e⟩ := x; exact Heap.lt_size e
  | xd fs => obtain ⟨_, ⟨_, _, _, e, _⟩, _⟩ := x; exact Heap.lt_size e
  | rng lo hi => obtain ⟨_, _, _, e⟩ := x; exact Heap.lt_size e
  | frz ob u => obtain ⟨e, _⟩ := x; exact Heap.lt_size e
  | tbl ps => exact Heap.lt_size (show h.get? a = some _ from x)
  | met f y => exact Heap.lt_size (show h.get? a = some _ from x)
  | ext φ => obtain ⟨_, ⟨_, e⟩, _⟩ := x; exact Heap.lt_size e
theorem Paired.mapP {α β : Type} {F G : α → β → Prop} : ∀ {l₁ : List α} {l₂ : List β}, Paired F l₁ l₂ → (∀ a b, F a b → G a b) → Paired G l₁ l₂
  | _, _, .nil, _ => .nil
  | _, _, .cons r t, f => .cons (f _ _ r) (Paired.mapP t f)
theorem Paired.imp' {α β : Type} {F G : α → β → Prop} (f : ∀ a b, F a b → G a b) {l₁ : List α} {l₂ : List β} (r : Paired F l₁ l₂) : Paired G l₁ l₂ := Paired.mapP r f
/-- what an object's description leans on: its own object, its own dict, the tuples -/
theorem ObjOk.stay (x : ObjOk P w H h a o) (k : ∀ b u, (b = a ∨ H b = some (.own a)) → h.get? b = some u → h'.get? b = some u)
    (ho : ∀ b, H b = some (.own a) → H' b = some (.own a)) (ht : ∀ b xs, H b = some (.tup xs) → H' b = some (.tup xs)) : ObjOk P w H' h' a o := by
  induction o with
  | lst xs => obtain ⟨z, its, n, r, e⟩ := x; exact ⟨z, its, n, r, k _ _ (.inl rfl) e⟩
  | tup xs => obtain ⟨z, its, r, ob, e, c⟩ := x; exact ⟨z, its, r, ob, k _ _ (.inl rfl) e, c⟩
  | dK kvs => obtain ⟨z, y, vs, r, ob, es, ep, e, c⟩ := x; exact ⟨z, y, vs, r, ob, es, ep, k _ _ (.inl rfl) e, c⟩
  | dT kvs =>
    obtain ⟨z, y, xs, r, ob, es, ep, e, c⟩ := x
    exact ⟨z, y, xs, Paired.mapP r fun p q z => ⟨z.1, ht _ _ z.2.1, z.2.2⟩, ob, es, ep, k _ _ (.inl rfl) e, c⟩
  | set S n => obtain ⟨ob, es, ep, t, e, c⟩ := x; exact ⟨ob, es, ep, t, k _ _ (.inl rfl) e, c⟩
  | ins C dx fs =>
    obtain ⟨d, z, ne, e, mA, ⟨od, es, ep, e2, c⟩, r⟩ := x
    exact ⟨ho _ d, z, ne, k _ _ (.inl rfl) e, mA, ⟨od, es, ep, k _ _ (.inr d) e2, c⟩, r⟩
  | own y => obtain ⟨ob, e⟩ := x; exact ⟨ob, k _ _ (.inl rfl) e⟩
  | xd fs => obtain ⟨mA, ⟨od, es, ep, e, c⟩, r⟩ := x; exact ⟨mA, ⟨od, es, ep, k _ _ (.inl rfl) e, c⟩, r⟩
  | rng lo hi => obtain ⟨t, u, v, e⟩ := x; exact ⟨t, u, v, k _ _ (.inl rfl) e⟩
  | frz ob u ih => obtain ⟨e, q⟩ := x; exact ⟨k _ _ (.inl rfl) e, ih q⟩
  | tbl ps =>
    have e : h.get? a = some { cls := .none, data := .fields ps } := x
    show h'.get? a = some { cls := .none, data := .fields ps }
    exact k a _ (.inl rfl) e
  | met f y =>
    have e : h.get? a = some (PySem.W.methodObj (.ref f) (.ref y)) := x
    show h'.get? a = some (PySem.W.methodObj (.ref f) (.ref y))
    exact k a _ (.inl rfl) e
  | ext φ => obtain ⟨p, ⟨o, e⟩, st⟩ := x; exact ⟨st _ _ p fun o q => k _ _ (.inl rfl) q, ⟨o, k _ _ (.inl rfl) e⟩, st⟩
theorem HOk.lt (x : HOk P w H h) (e : H a = some o) : a < h.objs.size := (x a o e).lt
theorem HOk.fresh (x : HOk P w H h) (e : h.objs.size ≤ a) : H a = none := by
  cases q : H a with
  | none => rfl
  | some u => exact absurd (Nat.lt_of_lt_of_le (x.lt q) e) (Nat.lt_irrefl _)
/-- every object of the heap is kept -/
theorem HOk.kept (x : HOk P w H h) (k : ∀ b u, h.get? b = some u → h'.get? b = some u) : HOk P w H h' := fun a o e =>
  (x a o e).stay (fun b u _ q => k b u q) (fun _ q => q) fun _ _ q => q
/-- a new object is laid and tracked -/
theorem HOk.laid (x : HOk P w H h) (k : ∀ b u, h.get? b = some u → h'.get? b = some u) (hp : h.objs.size ≤ a) (new : ObjOk P w (upd H a o) h' a o) : HOk P w (upd H a o) h' := fun b u e => by
  have hn := x.fresh hp
  by_cases hb : b = a
  · subst hb; rw [upd_same] at e; cases e; exact new
  · rw [upd_ne hb] at e
    exact (x b u e).stay (fun c v _ q => k c v q) (fun c q => by rw [upd_ne (ne_of_none q hn)]; exact q) fun c xs q => by rw [upd_ne (ne_of_none q hn)]; exact q
end

/-- what may be read as u: it is u, or a known u -/
def Rd (H : Hp) (a : Addr) (u : HO) : Prop := H a = some u ∨ ∃ o, H a = some (.frz o u)
theorem Rd.of {H : Hp} {a : Addr} {u : HO} (h : H a = some u) : Rd H a u := .inl h
theorem Rd.ok {P : Program} {w : World} {H : Hp} {h : Heap} {a : Addr} {u : HO} (r : Rd H a u) (x : HOk P w H h) : ObjOk P w H h a u := by
  rcases r with r | ⟨o, r⟩
  · exact x a u r
  · obtain ⟨_, q⟩ := x a _ r
    exact q
/-- what may be written -/
def Mut : Option HO → Prop
  | some (.lst _) => True
  | some (.dK _) => True
  | some (.dT _) => True
  | some (.set _ _) => True
  | some (.ins _ _ _) => True
  | some (.ext _) => True
  | _ => False
section
variable {P : Program} {w : World} {H : Hp} {h h' : Heap} {x e : Addr} {o' : HO}
/-- the object at e is changed: x itself, or the dict of the instance x -/
theorem HOk.write (ok : HOk P w H h) (mu : Mut (H x)) (he : e = x ∨ H e = some (.own x)) (k : ∀ b u, b ≠ e → h.get? b = some u → h'.get? b = some u) (heo : ∃ u, h'.get? e = some u)
    (new : ObjOk P w (upd H x o') h' x o') : HOk P w (upd H x o') h' := fun b u q => by
  have nown : ∀ c y, H c = some (.own y) → c ≠ x := fun c y r z => by subst z; rw [r] at mu; exact mu
  have ntup : ∀ c xs, H c = some (.tup xs) → c ≠ x := fun c xs r z => by subst z; rw [r] at mu; exact mu
  by_cases hb : b = x
  · subst hb; rw [upd_same] at q; cases q; exact new
  · rw [upd_ne hb] at q
    by_cases hbe : b = e
    · have q' : H b = some (.own x) := by
        rcases he with z | z
        · exact absurd (hbe.trans z) hb
        · rw [hbe]; exact z
      rw [q] at q'; cases q'
      obtain ⟨v, hv⟩ := heo
      exact ⟨v, by rw [hbe]; exact hv⟩
    · refine (ok b u q).stay (fun c v hc r => k c v ?_ r) (fun c r => by rw [upd_ne (nown c b r)]; exact r) fun c xs r => by rw [upd_ne (ntup c xs r)]; exact r
      rcases hc with rfl | hc
      · exact hbe
      · rintro rfl
        rcases he with z | z
        · exact nown c b hc z
        · rw [hc] at z; cases z; exact hb rfl
end

/-! ### kept unless tracked; of the frames at fs (the callers') the slots may change (an exception that passes writes there); of the records at ex (iterators) nothing is said -/
structure Un (fs ex : List Addr) (H H' : Hp) (h h' : Heap) : Prop where
  keep : ∀ b o, h.get? b = some o → H b = none → b ∉ fs → b ∉ ex → h'.get? b = some o
  slot : ∀ b o, h.get? b = some o → H b = none → b ∈ fs → b ∉ ex → ∃ sl, h'.get? b = some { o with slots := sl }
  free : ∀ b o, h.get? b = some o → H b = none → b ∉ ex → H' b = none
  there : ∀ b o, h.get? b = some o → b ∉ ex → ∃ o', h'.get? b = some o'
  tups : ∀ b xs, H b = some (.tup xs) → H' b = some (.tup xs)
  frzs : ∀ b o u, H b = some (.frz o u) → H' b = some (.frz o u)
  tbls : ∀ b ps, H b = some (.tbl ps) → ∃ more, H' b = some (.tbl (ps ++ more))
section
variable {fs fs' ex ex' : List Addr} {H H1 H2 : Hp} {h h1 h2 h' : Heap} {a x e : Addr} {o : HO}
theorem Un.any (u : Un fs ex H H1 h h1) {b : Addr} {ob : Obj} (q : h.get? b = some ob) (n : H b = none) (hx : b ∉ ex) : ∃ sl, h1.get? b = some { ob with slots := sl } := by
  by_cases hb : b ∈ fs
  · exact u.slot b ob q n hb hx
  · exact ⟨ob.slots, u.keep b ob q n hb hx⟩
theorem Un.trans (a : Un fs ex H H1 h h1) (b : Un fs ex H1 H2 h1 h2) : Un fs ex H H2 h h2 where
  keep := fun c ob q n hc hx => b.keep c ob (a.keep c ob q n hc hx) (a.free c ob q n hx) hc hx
  slot := fun c ob q n hc hx => by
    obtain ⟨sl, e1⟩ := a.slot c ob q n hc hx
    obtain ⟨sl', e2⟩ := b.slot c _ e1 (a.free c ob q n hx) hc hx
    exact ⟨sl', e2⟩
  free := fun c ob q n hx => by
    obtain ⟨o', e1⟩ := a.there c ob q hx
    exact b.free c o' e1 (a.free c ob q n hx) hx
  there := fun c ob q hx => by
    obtain ⟨o', e1⟩ := a.there c ob q hx
    exact b.there c o' e1 hx
  tups := fun c xs q => b.tups c xs (a.tups c xs q)
  frzs := fun c ob xs q => b.frzs c ob xs (a.frzs c ob xs q)
  tbls := fun c ps q => by
    obtain ⟨m1, e1⟩ := a.tbls c ps q
    obtain ⟨m2, e2⟩ := b.tbls c _ e1
    exact ⟨m1 ++ m2, by rw [e2, Array.append_assoc]⟩
theorem Un.kept (k : ∀ b u, h.get? b = some u → h'.get? b = some u) : Un fs ex H H h h' :=
  ⟨fun b ob q _ _ _ => k b ob q, fun b ob q _ _ _ => ⟨ob.slots, k b ob q⟩, fun _ _ _ n _ => n, fun b ob q _ => ⟨ob, k b ob q⟩, fun _ _ q => q, fun _ _ _ q => q, fun _ ps q => ⟨#[], by rw [q]; simp⟩⟩
theorem Un.refl : Un fs ex H H h h := Un.kept fun _ _ q => q
theorem Un.laid (k : ∀ b u, h.get? b = some u → h'.get? b = some u) (hp : h.objs.size ≤ a) (hn : H a = none) : Un fs ex H (upd H a o) h h' where
  keep := fun b u q _ _ _ => k b u q
  slot := fun b u q _ _ _ => ⟨u.slots, k b u q⟩
  free := fun b u q n _ => by rw [upd_ne (Nat.ne_of_lt (Nat.lt_of_lt_of_le (Heap.lt_size q) hp))]; exact n
  there := fun b u q _ => ⟨u, k b u q⟩
  tups := fun b xs q => by rw [upd_ne (ne_of_none q hn)]; exact q
  frzs := fun b u xs q => by rw [upd_ne (ne_of_none q hn)]; exact q
  tbls := fun b ps q => ⟨#[], by rw [upd_ne (ne_of_none q hn), q]; simp⟩
theorem Un.write (mu : Mut (H x)) (he : e = x ∨ H e = some (.own x)) (k : ∀ b u, b ≠ e → h.get? b = some u → h'.get? b = some u) (heo : ∃ u, h'.get? e = some u) : Un fs ex H (upd H x o) h h' := by
  have hx : ∀ b, H b = none → b ≠ x := fun b n z => by subst z; rw [n] at mu; exact mu
  have hb : ∀ b, H b = none → b ≠ e := fun b n z => by
    subst z
    rcases he with r | r
    · exact hx b n r
    · rw [n] at r; cases r
  have hm : ∀ b u, H b = some u → ¬ Mut (some u) → b ≠ x := fun b u q nm z => by subst z; rw [q] at mu; exact nm mu
  refine ⟨fun b u q n _ _ => k b u (hb b n) q, fun b u q n _ _ => ⟨u.slots, k b u (hb b n) q⟩, fun b u q n _ => by rw [upd_ne (hx b n)]; exact n, fun b u q _ => ?_,
    fun b xs q => by rw [upd_ne (hm b _ q fun z => z)]; exact q, fun b u xs q => by rw [upd_ne (hm b _ q fun z => z)]; exact q, fun b ps q => ⟨#[], by rw [upd_ne (hm b _ q fun z => z), q]; simp⟩⟩
  by_cases hbe : b = e
  · subst hbe; exact heo
  · exact ⟨u, k b u hbe q⟩
theorem Un.mono (u : Un fs ex H H1 h h1) (hs : ∀ b ∈ fs, b ∈ fs') (hx : ∀ b ∈ ex, b ∈ ex') : Un fs' ex' H H1 h h1 :=
  ⟨fun b ob q n hb he => u.keep b ob q n (fun z => hb (hs b z)) fun z => he (hx b z), fun _ _ q n _ he => u.any q n fun z => he (hx _ z), fun b ob q n he => u.free b ob q n fun z => he (hx b z), fun b ob q he => u.there b ob q fun z => he (hx b z), u.tups, u.frzs, u.tbls⟩
end

/-! ### the heap without what is tracked -/
def trk (h : Heap) (H : Hp) : List Addr := (List.range h.objs.size).filter fun a => (H a).isSome
def hidT (h : Heap) (H : Hp) : Heap := PySem.W.hideAll h (trk h H)
theorem hidT_size (h : Heap) (H : Hp) : (hidT h H).objs.size = h.objs.size := PySem.W.hideAll_size _ _
theorem hidT_get {h : Heap} {H : Hp} {b : Addr} {o : Obj} (e : h.get? b = some o) (n : H b = none) : (hidT h H).get? b = some o :=
  PySem.W.hideAll_get _ e fun hm => by
    have q : (H b).isSome = true := (List.mem_filter.mp hm).2
    rw [n] at q; simp at q
theorem of_hidT {h : Heap} {H : Hp} {b : Addr} {o : Obj} (e : (hidT h H).get? b = some o) : h.get? b = some o ∧ H b = none := by
  have e' : h.get? b = some o := PySem.W.of_hideAll (trk h H) e
  refine ⟨e', ?_⟩
  cases q : H b with
  | none => rfl
  | some x =>
    have hm : b ∈ trk h H := List.mem_filter.mpr ⟨List.mem_range.mpr (Heap.lt_size e'), by simp [q]⟩
    have z : (hidT h H).get? b = none := PySem.W.hideAll_none (trk h H) hm
    rw [z] at e; cases e

/-! ### OpenK's ledger, filled with every new object but one -/
def allNews (g h : Heap) (L : Addr) : List (Addr × Obj) := (List.range h.objs.size).filterMap fun a => if a = L ∨ (g.get? a).isSome = true then none else (h.get? a).map fun o => (a, o)
theorem mem_allNews {g h : Heap} {L a : Addr} {o : Obj} (h1 : a ≠ L) (h2 : g.get? a = none) (h3 : h.get? a = some o) : (a, o) ∈ allNews g h L :=
  List.mem_filterMap.mpr ⟨a, List.mem_range.mpr (Heap.lt_size h3), by simp [h1, h2, h3]⟩
theorem of_mem_allNews {g h : Heap} {L : Addr} {p : Addr × Obj} (hp : p ∈ allNews g h L) : p.1 ≠ L ∧ g.get? p.1 = none ∧ h.get? p.1 = some p.2 := by
  obtain ⟨b, _, e⟩ := List.mem_filterMap.mp hp
  split at e
  · cases e
  · rename_i hn
    cases q : h.get? b with
    | none => rw [q] at e; simp at e
    | some u =>
      rw [q] at e
      simp only [Option.map_some, Option.some.injEq] at e
      subst e
      refine ⟨fun z => hn (.inl z), ?_, q⟩
      show g.get? b = none
      cases r : g.get? b with
      | none => rfl
      | some v => exact (hn (.inr (by simp [r]))).elim
def rest (g h : Heap) (L d : Addr) : List (Addr × Obj) := (allNews g h L).filter fun p => decide (p.1 ≠ d)
theorem rest_ne {g h : Heap} {L d : Addr} : ∀ p ∈ rest g h L d, p.1 ≠ d := fun p hp => of_decide_eq_true (List.mem_filter.mp hp).2
theorem mem_rest {g h : Heap} {L d a : Addr} {o : Obj} (h1 : a ≠ L) (h2 : g.get? a = none) (h3 : h.get? a = some o) (h4 : a ≠ d) : (a, o) ∈ rest g h L d :=
  List.mem_filter.mpr ⟨mem_allNews h1 h2 h3, decide_eq_true h4⟩
theorem news_all {g h : Heap} {L : Addr} : News g L h (allNews g h L) := fun p hp => let ⟨a, b, c⟩ := of_mem_allNews hp; ⟨c, a, b⟩
theorem news_at {g h : Heap} {L d : Addr} {o : Obj} (h1 : d ≠ L) (h2 : g.get? d = none) (h3 : h.get? d = some o) : News g L h ((d, o) :: rest g h L d) := fun p hp => by
  rcases List.mem_cons.mp hp with rfl | hp
  · exact ⟨h3, h1, h2⟩
  · exact news_all p (List.mem_filter.mp hp).1
/-- behind a rule that changed d alone: all else but the frame is kept -/
theorem kept_of_news {g h h' : Heap} {L d : Addr} {m : Str → Option Value} (k : ∀ b o, g.get? b = some o → h.get? b = some o) (F : Fr g L h' m) (N : News g L h' (rest g h L d)) :
    ∀ b o, b ≠ L → b ≠ d → h.get? b = some o → h'.get? b = some o := fun b o h1 h2 e => by
  cases q : g.get? b with
  | some u =>
    have := k b u q
    rw [e] at this; cases this
    exact F.keep b _ q
  | none => exact (N (b, o) (mem_rest h1 q e h2)).1
end L2

namespace L2
open PySem PySem.Spec PyProof.Rows

/-- the module's facts, over the base: the heap at the law's entry without what is tracked there -/
structure Mod (K : PySem.W.Frag) (mg : Str → Option Value) (base : Heap) : Prop where
  kin : K.In base
  glob : base.Ns mainGlobals mg
  blt : ∃ mb, base.Ns builtinsNs mb ∧ ∀ x : Str, x ≠ "__name__" → mb x = bootBuiltins x
  nolimit : base.NoLimit

/-- the context: a def's body (or a comprehension's block) running. base: fixed through the whole law; s₀, H₀: the entry; outer: the frames whose slots others may change (a def's callers); stack: all frames that run;
   ex: iterators that were made ahead of the entry and are walked here (a comprehension's); fn: the names whose cells were made at the entry (a def: all; a comprehension's block: its own); calm: not within an except suite; pn: pins that every state bears; xe: what is wanted of an exception that leaves the code -/
structure Cx where
  prog : Program
  w : World
  K : PySem.W.Frag
  mg : Str → Option Value
  base : Heap
  A : Around
  N : List Str
  s₀ : Shared
  H₀ : Hp
  env : Env
  outer : List Env
  stack : List Env
  ex : List Addr
  fn : Str → Bool
  calm : Bool
  pn : List (Addr × Obj)
  xe : Value → Shared → Prop
/-- the callers' frames -/
def frs (l : List Env) : List Addr := l.filterMap (·.frame)
abbrev Cx.fs (X : Cx) : List Addr := frs X.outer

def Vis (sc : Scope) (x : Str) : Prop := sc.names.lookup x = some .local ∨ sc.names.lookup x = some .cell ∨ sc.names.lookup x = some .free
def Loc (sc : Scope) (x : Str) : Prop := sc.names.lookup x = some .local ∨ sc.names.lookup x = some .cell
def Look (env : Env) (h : Heap) (m : Str → Option Value) (x : Str) (u : Value) : Prop :=
  (env.kindOf x = some .local ∧ m x = some u) ∨ ((env.kindOf x = some .cell ∨ env.kindOf x = some .free) ∧ ∃ c, env.cells.lookup x = some c ∧ h.IsCell c (some u))

structure Cx.Ok (X : Cx) : Prop where
  mod : Mod X.K X.mg X.base
  kind : X.env.scope.kind = .function
  glob : X.env.globals = mainGlobals
  blt : X.env.builtins = builtinsNs
  above : X.s₀.heap.objs.size ≤ X.env.locals
  inj : ∀ x y c, X.env.cells.lookup x = some c → X.env.cells.lookup y = some c → x = y
  has : ∀ x, (X.env.kindOf x = some .cell ∨ X.env.kindOf x = some .free) → ∃ c, X.env.cells.lookup x = some c
  cab : ∀ x c, X.fn x = true → X.env.cells.lookup x = some c → X.s₀.heap.objs.size ≤ c
  hd : X.calm = true → X.A.handled = none
  frames : X.A.frames = some X.stack
  stk : X.stack = X.outer ∨ (X.stack = X.env :: X.outer ∧ X.env.frame = some X.env.locals)
  exf : ∀ b ∈ X.ex, b ≠ X.env.locals ∧ ∀ x c, X.env.cells.lookup x = some c → c ≠ b
  bs : ∀ b o, X.base.get? b = some o → X.s₀.heap.get? b = some o ∧ X.H₀ b = none
  bsz : X.base.objs.size ≤ X.s₀.heap.objs.size
  noex : ∀ b o, X.base.get? b = some o → b ∉ X.ex
  exfs : ∀ b ∈ X.ex, b ∉ X.fs
  funs : X.s₀.heap.FunFrames X.base X.outer
  frf : ∀ b ∈ X.fs, X.H₀ b = none

structure Inv (X : Cx) (pins : List (Addr × Obj)) (σ : List (Option V)) (H : Hp) (s : Shared) : Prop where
  ok : X.Ok
  os : s.os = X.s₀.os
  bare : AllBare s.gens
  base : Un X.fs X.ex X.H₀ H X.s₀.heap s.heap
  loc : ∃ m, s.heap.Ns X.env.locals m ∧ ∀ (i : Nat) (x : Str) (v : V), X.N[i]? = some x → σ[i]? = some (some v) → Vis X.env.scope x → ∃ u, RelV v u ∧ Look X.env s.heap m x u
  cell : ∀ x c, X.env.cells.lookup x = some c → ∃ v, s.heap.IsCell c v
  free : H X.env.locals = none
  freeC : ∀ x c, X.env.cells.lookup x = some c → H c = none
  pin : ∀ p ∈ X.pn ++ pins, s.heap.get? p.1 = some p.2 ∧ H p.1 = none ∧ p.1 ≠ X.env.locals ∧ p.1 ∉ X.fs ∧ ∀ v, p.2.data ≠ .cell v
  hok : HOk X.prog X.w H s.heap
  len : σ.length = X.N.length

section
variable {X : Cx} {pins : List (Addr × Obj)} {σ : List (Option V)} {H H' : Hp} {s : Shared} {h' : Heap}

theorem Cx.Ok.nofr (ok : X.Ok) {b : Addr} {o : Obj} (e : X.base.get? b = some o) : b ∉ X.fs := fun hb => by
  have := (ok.funs.mem hb).1
  rw [e] at this; cases this
theorem Inv.bs (I : Inv X pins σ H s) : ∀ b o, X.base.get? b = some o → s.heap.get? b = some o ∧ H b = none := fun b o e =>
  ⟨I.base.keep b o (I.ok.bs b o e).1 (I.ok.bs b o e).2 (I.ok.nofr e) (I.ok.noex b o e), I.base.free b o (I.ok.bs b o e).1 (I.ok.bs b o e).2 (I.ok.noex b o e)⟩
theorem Inv.bk (I : Inv X pins σ H s) : ∀ b o, X.base.get? b = some o → s.heap.get? b = some o := fun b o e => (I.bs b o e).1
theorem Inv.mod (I : Inv X pins σ H s) : Mod X.K X.mg X.base := I.ok.mod
theorem Inv.kIn (I : Inv X pins σ H s) : X.K.In s.heap := I.ok.mod.kin.keeps I.bk
theorem Inv.nolimit (I : Inv X pins σ H s) : s.heap.NoLimit := I.ok.mod.nolimit.keeps I.bk
/-- the frame over the base: for OpenK's rules (K.In X.base is I.mod.kin) -/
theorem Inv.fr (I : Inv X pins σ H s) : ∃ m, Fr X.base X.env.locals s.heap m :=
  let ⟨m, hn, _⟩ := I.loc
  ⟨m, hn, I.bk, Nat.le_trans I.ok.bsz I.ok.above⟩
theorem Inv.lt (I : Inv X pins σ H s) : X.env.locals < s.heap.objs.size := let ⟨_, hn, _⟩ := I.loc; hn.lt
theorem Inv.sz (I : Inv X pins σ H s) : X.s₀.heap.objs.size ≤ s.heap.objs.size := Nat.le_trans I.ok.above (Nat.le_of_lt I.lt)
theorem Inv.nofs (I : Inv X pins σ H s) {a : Addr} (h : s.heap.objs.size ≤ a) : a ∉ X.fs := fun hb => by
  obtain ⟨_, o, ho, _⟩ := I.ok.funs.mem hb
  exact absurd (Nat.lt_of_lt_of_le (Heap.lt_size ho) (Nat.le_trans I.sz h)) (Nat.lt_irrefl _)
theorem Inv.cne (I : Inv X pins σ H s) : ∀ x c, X.env.cells.lookup x = some c → c ≠ X.env.locals := fun x c e z => by
  obtain ⟨v, o, ho, hd⟩ := I.cell x c e
  obtain ⟨m, ⟨o', es, ep, ho', hd', _⟩, _⟩ := I.loc
  rw [z, ho'] at ho; cases ho; rw [hd'] at hd; cases hd
theorem Inv.funs (I : Inv X pins σ H s) : s.heap.FunFrames X.base X.outer := by
  have all : ∀ (l : List Env), (∀ b ∈ frs l, b ∈ X.fs) → X.s₀.heap.FunFrames X.base l → s.heap.FunFrames X.base l := by
    intro l
    induction l with
    | nil => intro _ _; trivial
    | cons env r ih =>
      intro hs hl
      obtain ⟨hk, ⟨L, o, hf, hn, ho, hd⟩, hr⟩ := hl
      have hL : L ∈ X.fs := hs L (by unfold frs; rw [List.filterMap_cons, hf]; exact List.mem_cons_self)
      obtain ⟨sl, e⟩ := I.base.slot L o ho (I.ok.frf L hL) hL fun z => I.ok.exfs L z hL
      exact ⟨hk, ⟨L, _, hf, hn, e, hd⟩, ih (fun b hb => hs b (by unfold frs; rw [List.filterMap_cons, hf]; exact List.mem_cons_of_mem _ hb)) hr⟩
  exact all X.outer (fun _ hb => hb) I.ok.funs

/-- the frames that run, for a call -/
theorem Inv.stack (I : Inv X pins σ H s) : s.heap.FunFrames X.base X.stack := by
  rcases I.ok.stk with e | ⟨e, hf⟩
  · rw [e]; exact I.funs
  · rw [e]
    obtain ⟨m, hn, _⟩ := I.loc
    refine .cons (by rw [I.ok.kind]; decide) hf hn ?_ I.funs
    exact Heap.get?_none_of_le (Nat.le_trans I.ok.bsz I.ok.above)
theorem Inv.stkSub (I : Inv X pins σ H s) : ∀ b ∈ frs X.stack, b ∈ X.env.locals :: X.fs := fun b hb => by
  rcases I.ok.stk with e | ⟨e, hf⟩
  · rw [e] at hb; exact List.mem_cons_of_mem _ hb
  · rw [e] at hb
    unfold frs at hb
    rw [List.filterMap_cons, hf] at hb
    exact hb
theorem Inv.stkFree (I : Inv X pins σ H s) : ∀ b ∈ frs X.stack, H b = none := fun b hb => by
  rcases List.mem_cons.mp (I.stkSub b hb) with e | hb
  · rw [e]; exact I.free
  · obtain ⟨_, o, ho, _⟩ := I.ok.funs.mem hb
    exact I.base.free b o ho (I.ok.frf b hb) fun z => I.ok.exfs b z hb

/-- THE STEP: the untracked objects but the frame and the records at ch are kept (the callers' frames up to slots), the frame's map is kept, the new abstract heap is held -/
theorem Inv.step {g' : Array GenState} {t' : Nat} {d' : Drawn} {ch : List Addr} (I : Inv X pins σ H s)
    (hch : ∀ b ∈ ch, (b ∈ X.ex ∨ X.s₀.heap.objs.size ≤ b) ∧ b ≠ X.env.locals ∧ (∀ x c, X.env.cells.lookup x = some c → c ≠ b) ∧ ∀ p ∈ X.pn ++ pins, p.1 ≠ b)
    (keep : ∀ b o, b ≠ X.env.locals → b ∉ X.fs → b ∉ ch → s.heap.get? b = some o → H b = none → h'.get? b = some o)
    (slot : ∀ b o, b ≠ X.env.locals → b ∈ X.fs → b ∉ ch → s.heap.get? b = some o → H b = none → ∃ sl, h'.get? b = some { o with slots := sl }) (free : ∀ b o, b ∉ ch → s.heap.get? b = some o → H b = none → H' b = none)
    (there : ∀ b o, b ∉ ch → s.heap.get? b = some o → ∃ o', h'.get? b = some o')
    (tups : ∀ b xs, H b = some (.tup xs) → H' b = some (.tup xs)) (frzs : ∀ b o u, H b = some (.frz o u) → H' b = some (.frz o u)) (tbls : ∀ b ps, H b = some (.tbl ps) → ∃ more, H' b = some (.tbl (ps ++ more)))
    (ns : ∀ m, s.heap.Ns X.env.locals m → h'.Ns X.env.locals m) (hok : HOk X.prog X.w H' h') (hg : AllBare g') :
    Inv X pins σ H' { s with heap := h', gens := g', drawn := d', toks := t' } := by
  have neL : ∀ b o, X.s₀.heap.get? b = some o → b ≠ X.env.locals := fun b o e => Nat.ne_of_lt (Nat.lt_of_lt_of_le (Heap.lt_size e) I.ok.above)
  have neC : ∀ b o, X.s₀.heap.get? b = some o → b ∉ X.ex → b ∉ ch := fun b o e hx hb => by
    rcases (hch b hb).1 with z | z
    · exact hx z
    · exact absurd (Nat.lt_of_lt_of_le (Heap.lt_size e) z) (Nat.lt_irrefl _)
  have cellK : ∀ x c, X.env.cells.lookup x = some c → ∀ v, s.heap.IsCell c v → h'.IsCell c v := fun x c e v ⟨o, ho, hd⟩ => by
    have nch : c ∉ ch := fun z => (hch c z).2.2.1 x c e rfl
    by_cases hc : c ∈ X.fs
    · obtain ⟨sl, q⟩ := slot c o (I.cne x c e) hc nch ho (I.freeC x c e)
      exact ⟨_, q, hd⟩
    · exact ⟨o, keep c o (I.cne x c e) hc nch ho (I.freeC x c e), hd⟩
  refine ⟨I.ok, I.os, hg, ⟨fun b o e n hb hx => ?_, fun b o e n hb hx => ?_, fun b o e n hx => ?_, fun b o e hx => ?_, fun b xs e => tups b xs (I.base.tups b xs e), fun b o xs e => frzs b o xs (I.base.frzs b o xs e), fun b ps e => ?_⟩, ?_, fun x c e => ?_, ?_, fun x c e => ?_, fun p hp => ?_, hok, I.len⟩
  · exact keep b o (neL b o e) hb (neC b o e hx) (I.base.keep b o e n hb hx) (I.base.free b o e n hx)
  · obtain ⟨sl, e1⟩ := I.base.slot b o e n hb hx
    obtain ⟨sl', e2⟩ := slot b _ (neL b o e) hb (neC b o e hx) e1 (I.base.free b o e n hx)
    exact ⟨sl', e2⟩
  · obtain ⟨o', e1⟩ := I.base.there b o e hx
    exact free b o' (neC b o e hx) e1 (I.base.free b o e n hx)
  · obtain ⟨o', e1⟩ := I.base.there b o e hx
    exact there b o' (neC b o e hx) e1
  · obtain ⟨m1, e1⟩ := I.base.tbls b ps e
    obtain ⟨m2, e2⟩ := tbls b _ e1
    exact ⟨m1 ++ m2, by rw [e2, Array.append_assoc]⟩
  · obtain ⟨m, hn, hl⟩ := I.loc
    refine ⟨m, ns m hn, fun i x v e1 e2 e3 => ?_⟩
    obtain ⟨u, r, l⟩ := hl i x v e1 e2 e3
    refine ⟨u, r, ?_⟩
    rcases l with l | ⟨k, c, e, z⟩
    · exact .inl l
    · exact .inr ⟨k, c, e, cellK x c e _ z⟩
  · obtain ⟨v, z⟩ := I.cell x c e
    exact ⟨v, cellK x c e v z⟩
  · obtain ⟨m, ⟨o, _, _, ho, _⟩, _⟩ := I.loc
    exact free _ o (fun z => (hch _ z).2.1 rfl) ho I.free
  · obtain ⟨v, o, ho, hd⟩ := I.cell x c e
    exact free c o (fun z => (hch c z).2.2.1 x c e rfl) ho (I.freeC x c e)
  · obtain ⟨e, n, ne, nf, d⟩ := I.pin p hp
    have nch : p.1 ∉ ch := fun z => (hch p.1 z).2.2.2 p hp rfl
    exact ⟨keep p.1 p.2 ne nf nch e n, free p.1 p.2 nch e n, ne, nf, d⟩
/-- .. where the frame's own object is kept too -/
theorem Inv.un {t' : Nat} (I : Inv X pins σ H s) (u : Un X.fs [] H H' s.heap h') (hok : HOk X.prog X.w H' h') : Inv X pins σ H' { s with heap := h', toks := t' } := by
  obtain ⟨m, ⟨o, es, ep, ho, r⟩, _⟩ := id I.loc
  obtain ⟨sl, hL⟩ := u.any ho I.free (by simp)
  exact I.step (g' := s.gens) (d' := s.drawn) (ch := []) (fun _ z => nomatch z) (fun b o _ hb _ e n => u.keep b o e n hb (by simp)) (fun b o _ hb _ e n => u.slot b o e n hb (by simp)) (fun b o _ e n => u.free b o e n (by simp)) (fun b o _ e => u.there b o e (by simp)) u.tups u.frzs u.tbls (fun m' hm => by
    obtain ⟨o', es', ep', ho', r'⟩ := hm
    rw [ho] at ho'; cases ho'
    exact ⟨_, es', ep', hL, r'⟩) hok I.bare
/-- behind a call (or a comprehension's block): the slots of this frame may have changed too, the records at ch may have turned -/
theorem Inv.call {g' : Array GenState} {t' : Nat} {d' : Drawn} {ch : List Addr} (I : Inv X pins σ H s) (u : Un (frs X.stack) ch H H' s.heap h') (hok : HOk X.prog X.w H' h') (hg : AllBare g')
    (hch : ∀ b ∈ ch, (b ∈ X.ex ∨ X.s₀.heap.objs.size ≤ b) ∧ b ≠ X.env.locals ∧ (∀ x c, X.env.cells.lookup x = some c → c ≠ b) ∧ ∀ p ∈ X.pn ++ pins, p.1 ≠ b) :
    Inv X pins σ H' { s with heap := h', gens := g', drawn := d', toks := t' } := by
  obtain ⟨m, ⟨o, es, ep, ho, r⟩, _⟩ := id I.loc
  obtain ⟨sl, hL⟩ := u.any ho I.free fun z => (hch _ z).2.1 rfl
  exact I.step (ch := ch) hch (fun b o hL hb hc e n => u.keep b o e n (fun z => (List.mem_cons.mp (I.stkSub b z)).elim hL hb) hc) (fun b o _ _ hc e n => u.any e n hc) (fun b o hc e n => u.free b o e n hc) (fun b o hc e => u.there b o e hc) u.tups u.frzs u.tbls (fun m' hm => by
    obtain ⟨o', es', ep', ho', r'⟩ := hm
    rw [ho] at ho'; cases ho'
    exact ⟨_, es', ep', hL, r'⟩) hok hg
/-- an untracked record of ours (an iterator) has turned -/
theorem Inv.turned {t' : Nat} {it : Addr} (I : Inv X pins σ H s) (k : ∀ b o, b ≠ it → s.heap.get? b = some o → h'.get? b = some o) (hn : H it = none) (hL : it ≠ X.env.locals)
    (h1 : it ∈ X.ex ∨ X.s₀.heap.objs.size ≤ it) (h2 : ∀ x c, X.env.cells.lookup x = some c → c ≠ it) (h3 : ∀ p ∈ X.pn ++ pins, p.1 ≠ it) : Inv X pins σ H { s with heap := h', toks := t' } := by
  have nit : ∀ b u, H b = some u → b ≠ it := fun b u e z => by rw [z, hn] at e; cases e
  refine I.step (g' := s.gens) (d' := s.drawn) (ch := [it]) (fun b hb => ?_) (fun b o _ _ hc e _ => k b o (fun z => hc (by simp [z])) e) (fun b o _ _ hc e _ => ⟨o.slots, k b o (fun z => hc (by simp [z])) e⟩) (fun _ _ _ _ n => n)
    (fun b o hc e => ⟨o, k b o (fun z => hc (by simp [z])) e⟩) (fun _ _ e => e) (fun _ _ _ e => e) (fun b ps e => ⟨#[], by rw [e]; simp⟩) (fun m hm => ?_) (fun b u e => ?_) I.bare
  · have e : b = it := by simpa using hb
    subst e
    exact ⟨h1, hL, h2, h3⟩
  · obtain ⟨o, es, ep, ho, r⟩ := hm
    exact ⟨o, es, ep, k _ o (Ne.symm hL) ho, r⟩
  · refine (I.hok b u e).stay (fun c v hc q => k c v ?_ q) (fun _ q => q) fun _ _ q => q
    rcases hc with z | z
    · rw [z]; exact nit b u e
    · exact nit c _ z
theorem Inv.tok (I : Inv X pins σ H s) (t : Nat) : Inv X pins σ H { s with toks := t } := I.un (h' := s.heap) (t' := t) Un.refl I.hok
/-- all objects kept -/
theorem Inv.kept {t' : Nat} (I : Inv X pins σ H s) (k : ∀ b u, s.heap.get? b = some u → h'.get? b = some u) : Inv X pins σ H { s with heap := h', toks := t' } := I.un (Un.kept k) (I.hok.kept k)
/-- a new object laid and tracked -/
theorem Inv.laid {a : Addr} {o : HO} {t' : Nat} (I : Inv X pins σ H s) (k : ∀ b u, s.heap.get? b = some u → h'.get? b = some u) (hp : s.heap.objs.size ≤ a) (new : ObjOk X.prog X.w (upd H a o) h' a o) :
    Inv X pins σ (upd H a o) { s with heap := h', toks := t' } := I.un (Un.laid k hp (I.hok.fresh hp)) (I.hok.laid k hp new)
/-- an object written -/
theorem Inv.write {x e : Addr} {o : HO} {t' : Nat} (I : Inv X pins σ H s) (mu : Mut (H x)) (he : e = x ∨ H e = some (.own x)) (k : ∀ b u, b ≠ e → s.heap.get? b = some u → h'.get? b = some u) (heo : ∃ u, h'.get? e = some u)
    (new : ObjOk X.prog X.w (upd H x o) h' x o) : Inv X pins σ (upd H x o) { s with heap := h', toks := t' } := I.un (Un.write mu he k heo) (I.hok.write mu he k heo new)
/-- forgetting slots, pins -/
theorem Inv.weak {σ' : List (Option V)} (I : Inv X pins σ H s) (hl : σ'.length = σ.length) (w : ∀ (i : Nat) v, σ'[i]? = some (some v) → σ[i]? = some (some v)) : Inv X pins σ' H s :=
  ⟨I.ok, I.os, I.bare, I.base, let ⟨m, hn, hl'⟩ := I.loc; ⟨m, hn, fun i x v e1 e2 e3 => hl' i x v e1 (w i v e2) e3⟩, I.cell, I.free, I.freeC, I.pin, I.hok, hl.trans I.len⟩
theorem Inv.pins_of {pins' : List (Addr × Obj)} (I : Inv X pins σ H s) (h : ∀ p ∈ pins', s.heap.get? p.1 = some p.2 ∧ H p.1 = none ∧ p.1 ≠ X.env.locals ∧ p.1 ∉ X.fs ∧ ∀ v, p.2.data ≠ .cell v) : Inv X pins' σ H s :=
  ⟨I.ok, I.os, I.bare, I.base, I.loc, I.cell, I.free, I.freeC, fun p hp => (List.mem_append.mp hp).elim (fun z => I.pin p (List.mem_append_left _ z)) (h p), I.hok, I.len⟩

theorem nodup_ix {N : List Str} (hN : N.Nodup) {i j : Nat} {x : Str} (a : N[i]? = some x) (b : N[j]? = some x) : i = j := by
  obtain ⟨h1, e1⟩ := List.getElem?_eq_some_iff.mp a
  obtain ⟨h2, e2⟩ := List.getElem?_eq_some_iff.mp b
  exact (List.getElem_inj hN).mp (e1.trans e2.symm)

/-- a name is stored; what changed -/
theorem store_ok2 {M : Model} {A : Around} {E : Value → Shared → Prop} {i : Nat} {x : Str} {v : V} {u : Value} {Q : Unit → Shared → Prop} (I : Inv X pins σ H s) (hN : X.N.Nodup) (hi : X.N[i]? = some x) (hx : Loc X.env.scope x) (r : RelV v u)
    (h : ∀ s', Inv X pins (σ.set i (some v)) H s' → (∃ a, Heap.SameBut a s.heap s'.heap ∧ (a = X.env.locals ∨ X.env.cells.lookup x = some a)) → Q () s') (hf : X.fn x = true ∨ X.env.scope.names.lookup x = some .local := by first | exact .inl rfl | exact .inr rfl | assumption) : wpAny M A (storeName X.env x u) Q E s := by
  obtain ⟨m, hn, hl⟩ := id I.loc
  have hcls : (X.env.scope.kind == .class || (X.env.scope.kind == .module && X.env.locals != X.env.globals)) = false := by rw [I.ok.kind]; rfl
  have hiσ : i < σ.length := by rw [I.len]; exact (List.getElem?_eq_some_iff.mp hi).1
  have cne := I.cne
  have tracked : ∀ {a : Addr} {h' : Heap}, (∃ o, s.heap.get? a = some o ∧ H a = none) → Heap.SameBut a s.heap h' → HOk X.prog X.w H h' := fun {a h'} ha hs b ob e => by
    obtain ⟨_, _, hfree⟩ := ha
    refine (I.hok b ob e).stay (fun c w' hc q => (hs.2 c ?_).trans q) (fun _ q => q) fun _ _ q => q
    rintro rfl
    rcases hc with rfl | hc
    · rw [hfree] at e; cases e
    · rw [hfree] at hc; cases hc
  rcases hx with hk | hk
  · refine wpAny_storeName_local hk hn (fun h' hn' hs => ?_) hcls
    obtain ⟨oL, _, _, hoL, _⟩ := id hn
    refine h _ ⟨I.ok, I.os, I.bare, ⟨fun b o e n hb hx => ?_, fun b o e n hb hx => ?_, I.base.free, fun b o e hx => ?_, I.base.tups, I.base.frzs, I.base.tbls⟩, ⟨_, hn', fun j y v' e1 e2 e3 => ?_⟩, fun y c e => ?_, I.free, I.freeC, fun p hp => ?_, tracked ⟨oL, hoL, I.free⟩ hs, by simpa using I.len⟩ ⟨_, hs, .inl rfl⟩
    · exact (hs.2 b (Nat.ne_of_lt (Nat.lt_of_lt_of_le (Heap.lt_size e) I.ok.above))).trans (I.base.keep b o e n hb hx)
    · obtain ⟨sl, e1⟩ := I.base.slot b o e n hb hx
      exact ⟨sl, (hs.2 b (Nat.ne_of_lt (Nat.lt_of_lt_of_le (Heap.lt_size e) I.ok.above))).trans e1⟩
    · obtain ⟨o', e1⟩ := I.base.there b o e hx
      exact ⟨o', (hs.2 b (Nat.ne_of_lt (Nat.lt_of_lt_of_le (Heap.lt_size e) I.ok.above))).trans e1⟩
    · by_cases hj : j = i
      · subst hj
        rw [hi] at e1; cases e1
        rw [List.getElem?_set_self hiσ] at e2
        cases e2
        exact ⟨u, r, .inl ⟨hk, by simp⟩⟩
      · rw [List.getElem?_set_ne (Ne.symm hj)] at e2
        obtain ⟨u', r', q⟩ := hl j y v' e1 e2 e3
        refine ⟨u', r', ?_⟩
        rcases q with ⟨k, e⟩ | ⟨k, c, e, z⟩
        · refine .inl ⟨k, ?_⟩
          have : y ≠ x := fun e => hj (nodup_ix hN e1 (e ▸ hi))
          simp [this, e]
        · exact .inr ⟨k, c, e, z.sameBut hs (cne y c e)⟩
    · obtain ⟨w', z⟩ := I.cell y c e
      exact ⟨w', z.sameBut hs (cne y c e)⟩
    · obtain ⟨e, n, ne, nf, d⟩ := I.pin p hp
      exact ⟨(hs.2 p.1 ne).trans e, n, ne, nf, d⟩
  · have hfn : X.fn x = true := by
      rcases hf with z | z
      · exact z
      · rw [z] at hk; cases hk
    obtain ⟨c, hc⟩ := I.ok.has x (.inl hk)
    obtain ⟨w', z⟩ := I.cell x c hc
    refine wpAny_storeName_cell I.ok.kind hk hc z (fun h' hc' hs => ?_)
    obtain ⟨oc, hoc, hocd⟩ := id z
    refine h { s with heap := h' } ⟨I.ok, I.os, I.bare, ⟨fun b o e n hb hx => ?_, fun b o e n hb hx => ?_, I.base.free, fun b o e hx => ?_, I.base.tups, I.base.frzs, I.base.tbls⟩, ⟨m, hn.sameBut hs (Ne.symm (cne x c hc)), fun j y v' e1 e2 e3 => ?_⟩, fun y c' e => ?_, I.free, I.freeC, fun p hp => ?_, tracked ⟨oc, hoc, I.freeC x c hc⟩ hs, by simpa using I.len⟩ ⟨c, hs, .inr hc⟩
    · exact (hs.2 b (Nat.ne_of_lt (Nat.lt_of_lt_of_le (Heap.lt_size e) (I.ok.cab x c hfn hc)))).trans (I.base.keep b o e n hb hx)
    · obtain ⟨sl, e1⟩ := I.base.slot b o e n hb hx
      exact ⟨sl, (hs.2 b (Nat.ne_of_lt (Nat.lt_of_lt_of_le (Heap.lt_size e) (I.ok.cab x c hfn hc)))).trans e1⟩
    · obtain ⟨o', e1⟩ := I.base.there b o e hx
      exact ⟨o', (hs.2 b (Nat.ne_of_lt (Nat.lt_of_lt_of_le (Heap.lt_size e) (I.ok.cab x c hfn hc)))).trans e1⟩
    · by_cases hj : j = i
      · subst hj
        rw [hi] at e1; cases e1
        rw [List.getElem?_set_self hiσ] at e2
        cases e2
        exact ⟨u, r, .inr ⟨.inl hk, c, hc, hc'⟩⟩
      · rw [List.getElem?_set_ne (Ne.symm hj)] at e2
        obtain ⟨u', r', q⟩ := hl j y v' e1 e2 e3
        refine ⟨u', r', ?_⟩
        rcases q with q | ⟨k, c', e, z'⟩
        · exact .inl q
        · refine .inr ⟨k, c', e, z'.sameBut hs ?_⟩
          rintro rfl
          exact hj (nodup_ix hN e1 (I.ok.inj _ _ _ e hc ▸ hi))
    · by_cases hcc : c' = c
      · subst hcc; exact ⟨_, hc'⟩
      · obtain ⟨w2, z2⟩ := I.cell y c' e
        exact ⟨w2, z2.sameBut hs hcc⟩
    · obtain ⟨e, n, ne, nf, d⟩ := I.pin p hp
      refine ⟨(hs.2 p.1 ?_).trans e, n, ne, nf, d⟩
      intro q
      rw [q, hoc] at e
      have q' : oc = p.2 := Option.some.inj e
      exact d w' (by rw [← q']; exact hocd)
theorem store_ok {M : Model} {A : Around} {E : Value → Shared → Prop} {i : Nat} {x : Str} {v : V} {u : Value} {Q : Unit → Shared → Prop} (I : Inv X pins σ H s) (hN : X.N.Nodup) (hi : X.N[i]? = some x) (hx : Loc X.env.scope x) (r : RelV v u)
    (h : ∀ s', Inv X pins (σ.set i (some v)) H s' → Q () s') (hf : X.fn x = true ∨ X.env.scope.names.lookup x = some .local := by first | exact .inl rfl | exact .inr rfl | assumption) : wpAny M A (storeName X.env x u) Q E s :=
  store_ok2 I hN hi hx r (fun s' I' _ => h s' I') hf
/-- behind a call or a block, the state as it is -/
theorem Inv.call' {s' : Shared} {ch : List Addr} (I : Inv X pins σ H s) (ho : s'.os = s.os) (u : Un (frs X.stack) ch H H' s.heap s'.heap) (hok : HOk X.prog X.w H' s'.heap) (hg : AllBare s'.gens)
    (hch : ∀ b ∈ ch, (b ∈ X.ex ∨ X.s₀.heap.objs.size ≤ b) ∧ b ≠ X.env.locals ∧ (∀ x c, X.env.cells.lookup x = some c → c ≠ b) ∧ ∀ p ∈ X.pn ++ pins, p.1 ≠ b) : Inv X pins σ H' s' := by
  obtain ⟨h', g', d', t', o'⟩ := s'
  have e : o' = s.os := ho
  subst e
  exact I.call (g' := g') (t' := t') (d' := d') u hok hg hch
end

/-! ### the judgements -/
/-- an exception: its class, its own dict's address (where it has one), the abstract heap behind it -/
abbrev XK := Value → Option Addr → Hp → Prop
abbrev St := List (Option V)
abbrev VK := V → Hp → Prop
/-- an expression's reading; a test's; an argument list's -/
abbrev TE := St → Hp → VK → Prop
abbrev TT := St → Hp → (Bool → Hp → Prop) → Prop
abbrev TA := St → Hp → (List V → Hp → Prop) → Prop
/-- what is wanted behind a statement -/
structure Ends where
  nx : St → Hp → Prop
  rt : VK
  bk : St → Hp → Prop := fun _ _ => False
  ct : St → Hp → Prop := fun _ _ => False
abbrev TS := Ends → St → Hp → Prop

def EP (X : Cx) (pins : List (Addr × Obj)) (σ : St) (Q : VK) (u : Value) (s' : Shared) : Prop := ∃ v H', Inv X pins σ H' s' ∧ RelV v u ∧ Q v H'
def TP (X : Cx) (pins : List (Addr × Obj)) (σ : St) (Q : Bool → Hp → Prop) (b : Bool) (s' : Shared) : Prop := ∃ H', Inv X pins σ H' s' ∧ Q b H'
def AP (X : Cx) (pins : List (Addr × Obj)) (σ : St) (Q : List V → Hp → Prop) (us : List Value) (s' : Shared) : Prop := ∃ vs H', Inv X pins σ H' s' ∧ Vals vs us ∧ Q vs H'
def SP (X : Cx) (pins : List (Addr × Obj)) (D : Ends) (f : Flow) (s' : Shared) : Prop :=
  match f with
  | .next => ∃ σ' H', Inv X pins σ' H' s' ∧ D.nx σ' H'
  | .brk => ∃ σ' H', Inv X pins σ' H' s' ∧ D.bk σ' H'
  | .cont => ∃ σ' H', Inv X pins σ' H' s' ∧ D.ct σ' H'
  | .ret u => ∃ v σ' H', Inv X pins σ' H' s' ∧ RelV v u ∧ D.rt v H'

def PE (X : Cx) (e : Expr) (t : TE) : Prop :=
  ∀ (pins : List (Addr × Obj)) (s : Shared) (σ : St) (H : Hp) (Q : VK), Inv X pins σ H s → t σ H Q → wpAny (model X.prog X.w) X.A (eval e X.env) (EP X pins σ Q) X.xe s
def PT (X : Cx) (e : Expr) (t : TT) : Prop :=
  ∀ (pins : List (Addr × Obj)) (s : Shared) (σ : St) (H : Hp) (Q : Bool → Hp → Prop), Inv X pins σ H s → t σ H Q → wpAny (model X.prog X.w) X.A (isTrue e X.env (eval e X.env)) (TP X pins σ Q) X.xe s
/-- a test whatever its 'whole' is (and, or) -/
def PW (X : Cx) (e : Expr) (t : TT) : Prop :=
  ∀ (whole : Sem Value) (pins : List (Addr × Obj)) (s : Shared) (σ : St) (H : Hp) (Q : Bool → Hp → Prop), Inv X pins σ H s → t σ H Q → wpAny (model X.prog X.w) X.A (isTrue e X.env whole) (TP X pins σ Q) X.xe s
theorem PW.pt {X : Cx} {e : Expr} {t : TT} (h : PW X e t) : PT X e t := h _
/-- an argument list (no star), from the left -/
def PA (X : Cx) (es : List Expr) (t : TA) : Prop :=
  ∀ (pos : Pos) (pins : List (Addr × Obj)) (s : Shared) (σ : St) (H : Hp) (Q : List V → Hp → Prop), Inv X pins σ H s → t σ H Q → wpAny (model X.prog X.w) X.A (spliced (backTo pos (starEach es X.env))) (AP X pins σ Q) X.xe s
def PS (X : Cx) (st : Stmt) (t : TS) : Prop :=
  ∀ (pins : List (Addr × Obj)) (s : Shared) (σ : St) (H : Hp) (D : Ends), Inv X pins σ H s → t D σ H → wpAny (model X.prog X.w) X.A (exec st X.env) (SP X pins D) X.xe s
def PSs (X : Cx) (st : List Stmt) (t : TS) : Prop :=
  ∀ (pins : List (Addr × Obj)) (s : Shared) (σ : St) (H : Hp) (D : Ends), Inv X pins σ H s → t D σ H → wpAny (model X.prog X.w) X.A (execs st X.env) (SP X pins D) X.xe s
/-- weaken the end -/
theorem thn {α : Type} {t : Sem α} {Q Q' : α → Shared → Prop} {M : Model} {A : Around} {E : Value → Shared → Prop} {s : Shared} (h : wpAny M A t Q E s) (hQ : ∀ a s, Q a s → Q' a s) : wpAny M A t Q' E s := wpAny_mono h hQ fun _ _ x => x
end L2

namespace L2
open PySem PySem.Spec PyProof.Rows
section
variable {X : Cx}

/-- two expressions in a row -/
theorem bin {a b : Expr} {ta tb : TE} (ha : PE X a ta) (hb : PE X b tb) {pins : List (Addr × Obj)} {s : Shared} {σ : St} {H : Hp} {R : V → V → Hp → Prop} (I : Inv X pins σ H s) (h : ta σ H fun x H1 => tb σ H1 fun y H2 => R x y H2)
    {α : Type} {Q : α → Shared → Prop} {f : Value → Value → Sem α}
    (hf : ∀ v u s2 x y H2, Inv X pins σ H2 s2 → RelV x v → RelV y u → R x y H2 → wpAny (model X.prog X.w) X.A (f v u) Q X.xe s2) :
    wpAny (model X.prog X.w) X.A (eval a X.env) (fun v s₁ => wpAny (model X.prog X.w) X.A (eval b X.env) (fun u s₂ => wpAny (model X.prog X.w) X.A (f v u) Q X.xe s₂) X.xe s₁) X.xe s := by
  refine thn (ha pins s σ H _ I h) fun v s1 ⟨x, H1, I1, r1, q1⟩ => ?_
  refine thn (hb pins s1 σ H1 _ I1 q1) fun u s2 ⟨y, H2, I2, r2, q2⟩ => ?_
  exact hf v u s2 x y H2 I2 r1 r2 q2

/-! ### names and constants -/
def tVar (i : Nat) : TE := fun σ H Q => ∃ v, σ[i]? = some (some v) ∧ Q v H
def tC (v : V) : TE := fun _ H Q => Q v H
theorem pe_var {i : Nat} {x : Str} {pos : Pos} (hN : X.N[i]? = some x) (hv : Vis X.env.scope x) (hd : (x == ("__debug__" : Str)) = false := by decide) (hcd : (x == ("__classdict__" : Str)) = false := by decide) : PE X (.Name x pos) (tVar i) := by
  intro pins s σ H Q I h
  obtain ⟨v, e, h⟩ := h
  obtain ⟨m, hn, hl⟩ := I.loc
  obtain ⟨u, r, l⟩ := hl i x v hN e hv
  have fin : EP X pins σ Q u s := ⟨v, H, I, r, h⟩
  rcases l with ⟨hk, hm⟩ | ⟨hk, c, hc, hcell⟩
  · exact wpAny_Name (wpAny_loadName_local I.ok.kind hk hn hm fin) hd
  · rcases hk with hk | hk
    · exact wpAny_Name (wpAny_loadName_cell I.ok.kind hk hc hcell fin) hd
    · exact wpAny_Name (wpAny_loadName_free I.ok.kind hk hc hcell fin hcd) hd
theorem pe_int {i j pos} : PE X (.Constant (.int i) j pos) (tC (.int i)) := fun _ _ _ H _ I h => wpAny_Constant_int ⟨.int i, H, I.tok _, ⟨_, rfl⟩, h⟩
theorem pe_bl {b j pos} : PE X (.Constant (.bool b) j pos) (tC (.bl b)) := fun _ _ _ H _ I h => Constant_bool ⟨.bl b, H, I, rfl, h⟩
theorem pe_non {j pos} : PE X (.Constant .none j pos) (tC .non) := fun _ _ _ H _ I h => Constant_none ⟨.non, H, I, rfl, h⟩
theorem pe_str {x j pos} : PE X (.Constant (.str x) j pos) (tC (.str x)) := fun _ _ _ H _ I h => Calls.Constant_str ⟨.str x, H, I.tok _, ⟨_, rfl⟩, h⟩

/-- a global name of the def -/
def Gl (X : Cx) (x : Str) : Prop := X.env.kindOf x = some .globalImplicit
theorem ld_glob {E : Value → Shared → Prop} {pins : List (Addr × Obj)} {s : Shared} {σ : St} {H : Hp} {x : Str} {u : Value} {pos : Pos} {Q : Value → Shared → Prop} (I : Inv X pins σ H s) (hg : Gl X x) (hm : X.mg x = some u) (h : Q u s)
    (hd : (x == ("__debug__" : Str)) = false := by decide) : wpAny (model X.prog X.w) X.A (eval (.Name x pos) X.env) Q E s :=
  Calls.Name_function_global I.ok.kind hg (Calls.loadGlobal_global (by rw [I.ok.glob]; exact I.mod.glob.keeps I.bk) hm h) hd
theorem ld_blt {E : Value → Shared → Prop} {pins : List (Addr × Obj)} {s : Shared} {σ : St} {H : Hp} {x : Str} {u : Value} {pos : Pos} {Q : Value → Shared → Prop} (I : Inv X pins σ H s) (hg : Gl X x) (hm : X.mg x = none) (hv : bootBuiltins x = some u) (h : Q u s)
    (hn : x ≠ "__name__" := by decide) (hd : (x == ("__debug__" : Str)) = false := by decide) : wpAny (model X.prog X.w) X.A (eval (.Name x pos) X.env) Q E s := by
  obtain ⟨mb, h1, h2⟩ := I.mod.blt
  exact Calls.Name_function_global I.ok.kind hg (Calls.loadGlobal_builtin (by rw [I.ok.glob]; exact I.mod.glob.keeps I.bk) hm (by rw [I.ok.blt]; exact h1.keeps I.bk) ((h2 x hn).trans hv) h) hd
/-- a module's constant, a class, a function, as a value -/
theorem pe_glob {x : Str} {v : V} {u : Value} {pos : Pos} (hg : Gl X x) (hm : X.mg x = some u) (r : RelV v u) (hd : (x == ("__debug__" : Str)) = false := by decide) : PE X (.Name x pos) (tC v) :=
  fun _ _ _ H _ I h => ld_glob I hg hm ⟨v, H, I, r, h⟩ hd
theorem pe_bltn {x : Str} {v : V} {u : Value} {pos : Pos} (hg : Gl X x) (hm : X.mg x = none) (hv : bootBuiltins x = some u) (r : RelV v u) (hn : x ≠ "__name__" := by decide) (hd : (x == ("__debug__" : Str)) = false := by decide) : PE X (.Name x pos) (tC v) :=
  fun _ _ _ H _ I h => ld_blt I hg hm hv ⟨v, H, I, r, h⟩ hn hd

/-! ### arithmetic -/
/-- two ints -/
def t2I (ta tb : TE) (k : Int → Int → Hp → Prop) : St → Hp → Prop := fun σ H => ta σ H fun x H1 => tb σ H1 fun y H2 => ∃ i j, x = .int i ∧ y = .int j ∧ k i j H2
def tAdd (ta tb : TE) : TE := fun σ H Q => t2I ta tb (fun i j H2 => Q (.int (i + j)) H2) σ H
def tSub (ta tb : TE) : TE := fun σ H Q => t2I ta tb (fun i j H2 => Q (.int (i - j)) H2) σ H
/-- the left factor below 2^64 -/
def tMul (ta tb : TE) : TE := fun σ H Q => t2I ta tb (fun i j H2 => (-(2 ^ 64) < i ∧ i < 2 ^ 64) ∧ Q (.int (i * j)) H2) σ H
variable {a b : Expr} {ta tb : TE} {pos : Pos}
theorem pe_add (ha : PE X a ta) (hb : PE X b tb) : PE X (.BinOp a .Add b pos) (tAdd ta tb) := by
  intro pins s σ H Q I h
  refine wpAny_BinOp (bin ha hb I h fun v u s2 x y H2 I2 rx ry q => ?_)
  obtain ⟨i, j, rfl, rfl, q⟩ := q
  obtain ⟨t, rfl⟩ := rx
  obtain ⟨t', rfl⟩ := ry
  exact add_int ⟨.int _, H2, I2.tok _, ⟨_, rfl⟩, q⟩
theorem pe_sub (ha : PE X a ta) (hb : PE X b tb) : PE X (.BinOp a .Sub b pos) (tSub ta tb) := by
  intro pins s σ H Q I h
  refine wpAny_BinOp (bin ha hb I h fun v u s2 x y H2 I2 rx ry q => ?_)
  obtain ⟨i, j, rfl, rfl, q⟩ := q
  obtain ⟨t, rfl⟩ := rx
  obtain ⟨t', rfl⟩ := ry
  exact sub_int ⟨.int _, H2, I2.tok _, ⟨_, rfl⟩, q⟩
theorem pe_mul (ha : PE X a ta) (hb : PE X b tb) : PE X (.BinOp a .Mult b pos) (tMul ta tb) := by
  intro pins s σ H Q I h
  refine wpAny_BinOp (bin ha hb I h fun v u s2 x y H2 I2 rx ry q => ?_)
  obtain ⟨i, j, rfl, rfl, ⟨q1, q2⟩, q⟩ := q
  obtain ⟨t, rfl⟩ := rx
  obtain ⟨t', rfl⟩ := ry
  exact mul_int ⟨.int _, H2, I2.tok _, ⟨_, rfl⟩, q⟩ (.of_left (intBits_le_64 q1 q2))

/-! ### comparisons -/
def PC (X : Cx) (op : CmpOp) (a b : Expr) (t : TE) : Prop :=
  ∀ (pins : List (Addr × Obj)) (s : Shared) (σ : St) (H : Hp) (Q : VK), Inv X pins σ H s → t σ H Q →
    wpAny (model X.prog X.w) X.A (eval a X.env) (fun v s₁ => wpAny (model X.prog X.w) X.A (eval b X.env) (fun u s₂ => wpAny (model X.prog X.w) X.A (compareOp op v u) (EP X pins σ Q) X.xe s₂) X.xe s₁) X.xe s
theorem nobehind (b : Expr) {op : CmpOp} (h : op ≠ .In) (h2 : op ≠ .NotIn) : behindInMarks op b = false := by
  have e1 : (op == CmpOp.In) = false := by cases op <;> first | rfl | exact absurd rfl h
  have e2 : (op == CmpOp.NotIn) = false := by cases op <;> first | rfl | exact absurd rfl h2
  cases b <;> simp [behindInMarks, e1, e2]
def tCmp (p : Int → Int → Bool) (ta tb : TE) : TE := fun σ H Q => t2I ta tb (fun i j H2 => Q (.bl (p i j)) H2) σ H
abbrev tLt : TE → TE → TE := tCmp fun i j => decide (i < j)
abbrev tLe : TE → TE → TE := tCmp fun i j => decide (i ≤ j)
abbrev tGt : TE → TE → TE := tCmp fun i j => decide (j < i)
abbrev tGe : TE → TE → TE := tCmp fun i j => decide (j ≤ i)
abbrev tEqI : TE → TE → TE := tCmp fun i j => decide (i = j)
abbrev tNeI : TE → TE → TE := tCmp fun i j => !decide (i = j)
/-- a comparison of two ints, by its rule -/
theorem pc_int {op : CmpOp} {p : Int → Int → Bool} (ha : PE X a ta) (hb : PE X b tb)
    (rule : ∀ (i j : Int) (t u : Tok) (Q : Value → Shared → Prop) (s : Shared), Q (.bool (p i j)) s → wpAny (model X.prog X.w) X.A (compareOp op (.int i t) (.int j u)) Q X.xe s) : PC X op a b (tCmp p ta tb) := by
  intro pins s σ H Q I h
  refine bin ha hb I h fun v u s2 x y H2 I2 rx ry q => ?_
  obtain ⟨i, j, rfl, rfl, q⟩ := q
  obtain ⟨t, rfl⟩ := rx
  obtain ⟨t', rfl⟩ := ry
  exact rule i j t t' _ s2 ⟨.bl _, H2, I2, rfl, q⟩
theorem pc_lt (ha : PE X a ta) (hb : PE X b tb) : PC X .Lt a b (tLt ta tb) := pc_int ha hb fun _ _ _ _ _ _ h => lt_int h
theorem pc_le (ha : PE X a ta) (hb : PE X b tb) : PC X .LtE a b (tLe ta tb) := pc_int ha hb fun _ _ _ _ _ _ h => le_int h
theorem pc_gt (ha : PE X a ta) (hb : PE X b tb) : PC X .Gt a b (tGt ta tb) := pc_int ha hb fun _ _ _ _ _ _ h => gt_int h
theorem pc_ge (ha : PE X a ta) (hb : PE X b tb) : PC X .GtE a b (tGe ta tb) := pc_int ha hb fun _ _ _ _ _ _ h => ge_int h
theorem pc_eqI (ha : PE X a ta) (hb : PE X b tb) : PC X .Eq a b (tEqI ta tb) := pc_int ha hb fun _ _ _ _ _ _ h => eq_int (by rw [Bool.beq_eq_decide_eq]; exact h)
theorem pc_neI (ha : PE X a ta) (hb : PE X b tb) : PC X .NotEq a b (tNeI ta tb) := pc_int ha hb fun _ _ _ _ _ _ h => ne_int (by rw [bne, Bool.beq_eq_decide_eq]; exact h)
/-- is None -/
def tIsN (ta : TE) : TE := fun σ H Q => ta σ H fun x H1 => Q (.bl (decide (x = .non))) H1
def tNotN (ta : TE) : TE := fun σ H Q => ta σ H fun x H1 => Q (.bl (!decide (x = .non))) H1
theorem RelV.none_iff {x : V} {v : Value} (r : RelV x v) : (v == Value.none) = decide (x = .non) := by
  cases x with
  | non => cases r; rfl
  | bl _ => cases r; rfl
  | int _ => obtain ⟨t, rfl⟩ := r; rfl
  | str _ => obtain ⟨t, rfl⟩ := r; rfl
  | byt _ => obtain ⟨t, rfl⟩ := r; rfl
  | flt _ => obtain ⟨t, rfl⟩ := r; rfl
  | ref _ => cases r; rfl
  | ty _ => cases r; rfl
theorem pc_isN {j pos'} (ha : PE X a ta) : PC X .Is a (.Constant .none j pos') (tIsN ta) := by
  intro pins s σ H Q I h
  refine thn (ha pins s σ H _ I h) fun v s1 ⟨x, H1, I1, r1, q1⟩ => ?_
  exact Constant_none (is_none_gen ⟨.bl _, H1, I1, by rw [r1.none_iff]; rfl, q1⟩)
theorem pc_notN {j pos'} (ha : PE X a ta) : PC X .IsNot a (.Constant .none j pos') (tNotN ta) := by
  intro pins s σ H Q I h
  refine thn (ha pins s σ H _ I h) fun v s1 ⟨x, H1, I1, r1, q1⟩ => ?_
  exact Constant_none (isnot_none_gen ⟨.bl _, H1, I1, by rw [r1.none_iff]; rfl, q1⟩)
/-- a comparison as a value, as a test -/
def tB (t : TE) : TT := fun σ H Q => t σ H fun x H1 => ∃ c, x = .bl c ∧ Q c H1
theorem pe_cmp {op : CmpOp} {t : TE} (h : PC X op a b t) (h1 : behindInMarks op b = false := by first | exact nobehind _ (by decide) (by decide) | rfl) : PE X (.Compare a [op] [b] pos) t := fun pins s σ H Q I hw => wpAny_Compare1 (h pins s σ H Q I hw) h1
theorem pt_cmp {op : CmpOp} {t : TE} (h : PC X op a b t) (h1 : behindInMarks op b = false := by first | exact nobehind _ (by decide) (by decide) | rfl) : PT X (.Compare a [op] [b] pos) (tB t) := by
  intro pins s σ H Q I hw
  refine wpAny_isTrue_Compare1 (thn (h pins s σ H _ I hw) fun v s1 h1 => thn h1 fun u s2 h2 => thn h2 fun c s3 ⟨x, H1, I1, r1, q1⟩ => ?_) h1
  obtain ⟨d, rfl, q⟩ := q1
  cases r1
  exact wpAny_truthy_bool ⟨H1, I1, q⟩
/-- an expression whose value is a bool, as a test -/
theorem pt_val {e : Expr} {t : TE} (h : PE X e t) (he : ∀ whole, isTrue e X.env whole = (do let v ← whole; standAt e.pos; holding [v] (truthy v)) := by intro _; rfl) : PT X e (tB t) := by
  intro pins s σ H Q I hw
  refine isTrue_plain (thn (h pins s σ H _ I hw) fun v s1 ⟨x, H1, I1, r1, q1⟩ => ?_) (he _)
  obtain ⟨d, rfl, q⟩ := q1
  cases r1
  exact wpAny_truthy_bool ⟨H1, I1, q⟩

/-! ### and, or, not -/
variable {tA tB' : TT} {rest : List Expr}
def tAnd (t u : TT) : TT := fun σ H Q => t σ H fun c H1 => if c = true then u σ H1 Q else Q false H1
def tOr (t u : TT) : TT := fun σ H Q => t σ H fun c H1 => if c = true then Q true H1 else u σ H1 Q
def tNot (t : TT) : TT := fun σ H Q => t σ H fun c H1 => Q (!c) H1
theorem pw_and1 (ha : PT X a tA) : PW X (.BoolOp .And [a] pos) tA := by
  intro wh pins s σ H Q I h
  refine isTrue_and (thn (ha pins s σ H Q I h) fun c s1 e => ?_)
  cases c with
  | true => exact isTrue_and_nil e
  | false => exact e
theorem pw_or1 (ha : PT X a tA) : PW X (.BoolOp .Or [a] pos) tA := by
  intro wh pins s σ H Q I h
  refine isTrue_or (thn (ha pins s σ H Q I h) fun c s1 e => ?_)
  cases c with
  | false => exact isTrue_or_nil e
  | true => exact e
theorem pw_and (ha : PT X a tA) (hb : PW X (.BoolOp .And (b :: rest) pos) tB') : PW X (.BoolOp .And (a :: b :: rest) pos) (tAnd tA tB') := by
  intro wh pins s σ H Q I h
  refine isTrue_and (thn (ha pins s σ H _ I h) fun c s1 ⟨H1, I1, q1⟩ => ?_)
  cases c with
  | true => exact hb wh pins s1 σ H1 Q I1 q1
  | false => exact ⟨H1, I1, q1⟩
theorem pw_or (ha : PT X a tA) (hb : PW X (.BoolOp .Or (b :: rest) pos) tB') : PW X (.BoolOp .Or (a :: b :: rest) pos) (tOr tA tB') := by
  intro wh pins s σ H Q I h
  refine isTrue_or (thn (ha pins s σ H _ I h) fun c s1 ⟨H1, I1, q1⟩ => ?_)
  cases c with
  | true => exact ⟨H1, I1, q1⟩
  | false => exact hb wh pins s1 σ H1 Q I1 q1
theorem pt_not (ha : PT X a tA) : PT X (.UnaryOp .Not a pos) (tNot tA) := by
  intro pins s σ H Q I h
  exact isTrue_not (ha pins s σ H (fun c H1 => Q (!c) H1) I h)
/-- .. as values (bools) -/
def tAndV (ta tb : TE) : TE := fun σ H Q => ta σ H fun x H1 => ∃ c, x = .bl c ∧ if c = true then tb σ H1 Q else Q (.bl false) H1
def tOrV (ta tb : TE) : TE := fun σ H Q => ta σ H fun x H1 => ∃ c, x = .bl c ∧ if c = true then Q (.bl true) H1 else tb σ H1 Q
def tNotV (ta : TE) : TE := fun σ H Q => ta σ H fun x H1 => ∃ c, x = .bl c ∧ Q (.bl (!c)) H1
theorem pe_one {op} {t : TE} (h : PE X a t) : PE X (.BoolOp op [a] pos) t := fun pins s σ H Q I hw => BoolOp_one (h pins s σ H Q I hw)
theorem pe_and (ha : PE X a ta) (hb : PE X (.BoolOp .And (b :: rest) pos) tb) : PE X (.BoolOp .And (a :: b :: rest) pos) (tAndV ta tb) := by
  intro pins s σ H Q I h
  refine BoolOp_and (thn (ha pins s σ H _ I h) fun v s1 ⟨x, H1, I1, r1, q1⟩ => ?_)
  obtain ⟨c, rfl, q1⟩ := q1
  cases r1
  refine wpAny_truthy_bool ?_
  cases c with
  | true => exact hb pins s1 σ H1 Q I1 q1
  | false => exact ⟨.bl false, H1, I1, rfl, q1⟩
theorem pe_or (ha : PE X a ta) (hb : PE X (.BoolOp .Or (b :: rest) pos) tb) : PE X (.BoolOp .Or (a :: b :: rest) pos) (tOrV ta tb) := by
  intro pins s σ H Q I h
  refine BoolOp_or (thn (ha pins s σ H _ I h) fun v s1 ⟨x, H1, I1, r1, q1⟩ => ?_)
  obtain ⟨c, rfl, q1⟩ := q1
  cases r1
  refine wpAny_truthy_bool ?_
  cases c with
  | false => exact hb pins s1 σ H1 Q I1 q1
  | true => exact ⟨.bl true, H1, I1, rfl, q1⟩
theorem pe_not (ha : PE X a ta) : PE X (.UnaryOp .Not a pos) (tNotV ta) := by
  intro pins s σ H Q I h
  refine UnaryOp_ (thn (ha pins s σ H _ I h) fun v s1 ⟨x, H1, I1, r1, q1⟩ => ?_)
  obtain ⟨c, rfl, q1⟩ := q1
  cases r1
  exact not_of (wpAny_truthy_bool ⟨.bl (!c), H1, I1, rfl, q1⟩)
/-- a if t else b -/
def tIf (t : TT) (ta tb : TE) : TE := fun σ H Q => t σ H fun c H1 => if c = true then ta σ H1 Q else tb σ H1 Q
theorem pe_ifExp {c : Expr} (hc : PT X c tA) (ha : PE X a ta) (hb : PE X b tb) : PE X (.IfExp c a b pos) (tIf tA ta tb) := by
  intro pins s σ H Q I h
  refine wpAny_IfExp (thn (hc pins s σ H _ I h) fun d s1 ⟨H1, I1, q1⟩ => ?_)
  cases d with
  | true => exact ha pins s1 σ H1 Q I1 q1
  | false => exact hb pins s1 σ H1 Q I1 q1
end
end L2

namespace L2
open PySem PySem.Spec PyProof.Rows

/-! ### a list, a tuple that is read: tracked, frozen, or an object of the module -/
def SqL (K : PySem.W.Frag) (H : Hp) (a : Addr) (xs : List V) : Prop :=
  Rd H a (.lst xs) ∨
    ∃ (o : Obj) (its : Array Value) (n : Nat), K.lookup a = some o ∧ o.cls = .type "list" ∧ o.dict = none ∧ o.data = .seq its n ∧ its.size ≤ sizeLine ∧ Vals xs its.toList
def SqT (K : PySem.W.Frag) (H : Hp) (a : Addr) (xs : List V) : Prop :=
  Rd H a (.tup xs) ∨
    ∃ (o : Obj) (its : Array Value) (n : Nat), K.lookup a = some o ∧ o.cls = .type "tuple" ∧ o.data = .seq its n ∧ its.size ≤ sizeLine ∧ Vals xs its.toList
def absV : Value → Option V
  | .none => some .non
  | .bool b => some (.bl b)
  | .int i _ => some (.int i)
  | .str x _ => some (.str x)
  | .bytes b _ => some (.byt b)
  | .float b _ => some (.flt b)
  | .ref a => some (.ref a)
  | .type n => some (.ty n)
  | _ => none
theorem RelV.abs {x : V} {u : Value} (r : RelV x u) : absV u = some x := by
  cases x with
  | non => cases r; rfl
  | bl _ => cases r; rfl
  | int _ => obtain ⟨t, rfl⟩ := r; rfl
  | str _ => obtain ⟨t, rfl⟩ := r; rfl
  | byt _ => obtain ⟨t, rfl⟩ := r; rfl
  | flt _ => obtain ⟨t, rfl⟩ := r; rfl
  | ref _ => cases r; rfl
  | ty _ => cases r; rfl
theorem RelV.inj {x y : V} {u : Value} (r : RelV x u) (q : RelV y u) : x = y := Option.some.inj (r.abs.symm.trans q.abs)
theorem Vals.inj : ∀ {xs ys : List V} {us : List Value}, Vals xs us → Vals ys us → xs = ys
  | _, _, _, .nil, .nil => rfl
  | _, _, _, .cons r t, .cons r' t' => by rw [r.inj r', Vals.inj t t']
section
variable {X : Cx} {pins : List (Addr × Obj)} {σ : St} {H : Hp} {s : Shared} {a : Addr} {xs ys : List V}
theorem SqL.of {K : PySem.W.Frag} (h : H a = some (.lst xs)) : SqL K H a xs := .inl (.inl h)
theorem SqT.of {K : PySem.W.Frag} (h : H a = some (.tup xs)) : SqT K H a xs := .inl (.inl h)
theorem Inv.list (I : Inv X pins σ H s) (h : SqL X.K H a xs) : ∃ its : List Value, Vals xs its ∧ PlainL s.heap a its.toArray ∧ xs.length ≤ sizeLine := by
  rcases h with h | ⟨o, its, n, hk, hc, hd, hs, hz, r⟩
  · obtain ⟨z, its, n, r, e⟩ := h.ok I.hok
    exact ⟨its, r, ⟨_, n, e, rfl, rfl, rfl⟩, z⟩
  · refine ⟨its.toList, r, ⟨o, n, I.kIn a o hk, hc, hd, by simpa using hs⟩, ?_⟩
    have e := r.length
    simp only [Array.length_toList] at e
    omega
theorem Inv.tuple (I : Inv X pins σ H s) (h : SqT X.K H a xs) : ∃ its : List Value, Vals xs its ∧ IsTup s.heap a its.toArray ∧ xs.length ≤ sizeLine := by
  rcases h with h | ⟨o, its, n, hk, hc, hs, hz, r⟩
  · obtain ⟨z, its, r, p⟩ := h.ok I.hok
    exact ⟨its, r, p, z⟩
  · refine ⟨its.toList, r, ⟨o, I.kIn a o hk, hc, n, by simpa using hs⟩, ?_⟩
    have e := r.length
    simp only [Array.length_toList] at e
    omega
theorem Inv.list_inj (I : Inv X pins σ H s) (h : SqL X.K H a xs) (h' : SqL X.K H a ys) : xs = ys := by
  obtain ⟨its, r, ⟨o, n, e, _, _, d⟩, _⟩ := I.list h
  obtain ⟨its', r', ⟨o', n', e', _, _, d'⟩, _⟩ := I.list h'
  rw [e] at e'; cases e'
  rw [d] at d'
  injection d' with d1 _
  have : its = its' := by simpa using congrArg Array.toList d1
  subst this
  exact r.inj r'
theorem Inv.tuple_inj (I : Inv X pins σ H s) (h : SqT X.K H a xs) (h' : SqT X.K H a ys) : xs = ys := by
  obtain ⟨its, r, ⟨o, e, _, n, d⟩, _⟩ := I.tuple h
  obtain ⟨its', r', ⟨o', e', _, n', d'⟩, _⟩ := I.tuple h'
  rw [e] at e'; cases e'
  rw [d] at d'
  injection d' with d1 _
  have : its = its' := by simpa using congrArg Array.toList d1
  subst this
  exact r.inj r'
end

/-! ### another wish about exceptions -/
abbrev Cx.wish (X : Cx) (E : Value → Shared → Prop) : Cx := { X with xe := E }
/-- no exception leaves -/
abbrev Cx.nox (X : Cx) : Cx := X.wish fun _ _ => False
theorem Cx.Ok.wish {X : Cx} (ok : X.Ok) (E : Value → Shared → Prop) : (X.wish E).Ok :=
  ⟨ok.mod, ok.kind, ok.glob, ok.blt, ok.above, ok.inj, ok.has, ok.cab, ok.hd, ok.frames, ok.stk, ok.exf, ok.bs, ok.bsz, ok.noex, ok.exfs, ok.funs, ok.frf⟩
theorem Cx.Ok.unwish {X : Cx} {E : Value → Shared → Prop} (ok : (X.wish E).Ok) : X.Ok :=
  ⟨ok.mod, ok.kind, ok.glob, ok.blt, ok.above, ok.inj, ok.has, ok.cab, ok.hd, ok.frames, ok.stk, ok.exf, ok.bs, ok.bsz, ok.noex, ok.exfs, ok.funs, ok.frf⟩
section
variable {X : Cx} {pins : List (Addr × Obj)} {σ : St} {H : Hp} {s : Shared} {E : Value → Shared → Prop}
theorem Inv.wish (I : Inv X pins σ H s) (E : Value → Shared → Prop) : Inv (X.wish E) pins σ H s := ⟨I.ok.wish E, I.os, I.bare, I.base, I.loc, I.cell, I.free, I.freeC, I.pin, I.hok, I.len⟩
theorem Inv.unwish (I : Inv (X.wish E) pins σ H s) : Inv X pins σ H s := ⟨I.ok.unwish, I.os, I.bare, I.base, I.loc, I.cell, I.free, I.freeC, I.pin, I.hok, I.len⟩
theorem SP.unwish {D : Ends} {f : Flow} {s' : Shared} (h : SP (X.wish E) pins D f s') : SP X pins D f s' := by
  cases f with
  | next => obtain ⟨σ', H', I, q⟩ := h; exact ⟨σ', H', I.unwish, q⟩
  | brk => obtain ⟨σ', H', I, q⟩ := h; exact ⟨σ', H', I.unwish, q⟩
  | cont => obtain ⟨σ', H', I, q⟩ := h; exact ⟨σ', H', I.unwish, q⟩
  | ret u => obtain ⟨v, σ', H', I, r, q⟩ := h; exact ⟨v, σ', H', I.unwish, r, q⟩
theorem PE.nox {e : Expr} {t : TE} (h : PE X.nox e t) : PE X e t := fun pins s σ H Q I hw =>
  wpAny_mono (h pins s σ H Q (I.wish _) hw) (fun _ _ ⟨v, H', I', r, q⟩ => ⟨v, H', I'.unwish, r, q⟩) fun _ _ z => False.elim z
theorem PT.nox {e : Expr} {t : TT} (h : PT X.nox e t) : PT X e t := fun pins s σ H Q I hw =>
  wpAny_mono (h pins s σ H Q (I.wish _) hw) (fun _ _ ⟨H', I', q⟩ => ⟨H', I'.unwish, q⟩) fun _ _ z => False.elim z
theorem PSs.nox {st : List Stmt} {t : TS} (h : PSs X.nox st t) : PSs X st t := fun pins s σ H D I hw =>
  wpAny_mono (h pins s σ H D (I.wish _) hw) (fun _ _ q => q.unwish) fun _ _ z => False.elim z
end

/-! ### blocks and small statements -/
section
variable {X : Cx} {st : Stmt} {rest : List Stmt} {t u : TS} {e : Expr} {te : TE} {pos : Pos}
def tNext : TS := fun D σ H => D.nx σ H
def tSeq (t u : TS) : TS := fun D σ H => t { D with nx := u D } σ H
theorem pss_nil : PSs X [] tNext := fun _ _ σ H _ I h => wpAny_execs_nil ⟨σ, H, I, h⟩
theorem pss_cons (h1 : PS X st t) (h2 : PSs X rest u) : PSs X (st :: rest) (tSeq t u) := by
  intro pins s σ H D I h
  refine wpAny_execs_cons (thn (h1 pins s σ H { D with nx := u D } I h) fun f s1 q => ?_)
  cases f with
  | next =>
    obtain ⟨σ', H', I', q⟩ := q
    exact h2 pins s1 σ' H' D I' q
  | ret v => exact q
  | brk => exact q
  | cont => exact q
theorem pss_one (h1 : PS X st t) : PSs X [st] t := by
  intro pins s σ H D I h
  refine wpAny_execs_cons (thn (h1 pins s σ H D I h) fun f s1 q => ?_)
  cases f with
  | next => exact wpAny_execs_nil q
  | ret v => exact q
  | brk => exact q
  | cont => exact q
def tBreak : TS := fun D σ H => D.bk σ H
def tCont : TS := fun D σ H => D.ct σ H
theorem ps_pass : PS X (.Pass pos) tNext := fun _ _ σ H _ I h => wpAny_Pass ⟨σ, H, I, h⟩
theorem ps_break : PS X (.Break pos) tBreak := fun _ _ σ H _ I h => wpAny_Break ⟨σ, H, I, h⟩
theorem ps_continue : PS X (.Continue pos) tCont := fun _ _ σ H _ I h => wpAny_Continue ⟨σ, H, I, h⟩
/-- in a def's body nothing is shown -/
theorem Inv.quiet {pins : List (Addr × Obj)} {σ : St} {H : Hp} {s : Shared} (I : Inv X pins σ H s) : interactive X.env = false := by simp [interactive, I.ok.kind]
/-- a docstring -/
theorem ps_doc {x j pos pos'} : PS X (.Expr (.Constant (.str x) j pos) pos') tNext := fun _ s σ H _ I h => wpAny_Expr (Calls.Constant_str (show SP X _ _ .next { s with toks := s.toks + 1 } from ⟨σ, H, I.tok _, h⟩)) I.quiet
/-- an expression whose value is dropped -/
def tDrop (te : TE) : TS := fun D σ H => te σ H fun _ H1 => D.nx σ H1
theorem ps_expr (he : PE X e te) (hs : swapsWith e none pos.line X.env = pure false := by rfl) : PS X (.Expr e pos) (tDrop te) := by
  intro pins s σ H D I h
  exact wpAny_Expr_any (thn (he pins s σ H _ I h) fun v s1 ⟨x, H1, I1, r1, q1⟩ => ⟨σ, H1, I1, q1⟩) I.quiet hs
def tRet (te : TE) : TS := fun D σ H => te σ H D.rt
theorem ps_ret (he : PE X e te) : PS X (.Return (some e) pos) (tRet te) := by
  intro pins s σ H D I h
  exact wpAny_Return_some (thn (he pins s σ H _ I h) fun v s1 ⟨x, H1, I1, r1, q1⟩ => ⟨x, σ, H1, I1, r1, q1⟩)
def tRetN : TS := fun D _ H => D.rt .non H
theorem ps_retN : PS X (.Return none pos) tRetN := fun _ _ σ H _ I h => wpAny_Return_none ⟨.non, σ, H, I, rfl, h⟩
def tIfS (c : TT) (t u : TS) : TS := fun D σ H => c σ H fun b H1 => if b = true then t D σ H1 else u D σ H1
theorem ps_if {c : Expr} {a b : List Stmt} {tc : TT} (hc : PT X c tc) (ha : PSs X a t) (hb : PSs X b u) : PS X (.If c a b pos) (tIfS tc t u) := by
  intro pins s σ H D I h
  refine wpAny_If (thn (hc pins s σ H _ I h) fun d s1 ⟨H1, I1, q1⟩ => ?_)
  cases d with
  | true => exact ha pins s1 σ H1 D I1 q1
  | false => exact hb pins s1 σ H1 D I1 q1
/-- code that the proof never comes to -/
def tNever : TS := fun _ _ _ => False
theorem ps_never : PS X st tNever := fun _ _ _ _ _ _ h => h.elim
theorem pss_never {sts : List Stmt} : PSs X sts tNever := fun _ _ _ _ _ _ h => h.elim
end

/-! ### targets -/
abbrev TG := V → St → Hp → (St → Hp → Prop) → Prop
abbrev TGs := List V → St → Hp → (St → Hp → Prop) → Prop
def PG (X : Cx) (target : Expr) (t : TG) : Prop :=
  ∀ (pins : List (Addr × Obj)) (s : Shared) (σ : St) (H : Hp) (v : V) (u : Value) (Q : St → Hp → Prop), Inv X pins σ H s → RelV v u → t v σ H Q →
    wpAny (model X.prog X.w) X.A (assign target X.env u) (fun _ s' => ∃ σ' H', Inv X pins σ' H' s' ∧ Q σ' H') X.xe s
/-- several targets, one after another -/
def PGs (X : Cx) (ts : List Expr) (t : TGs) : Prop :=
  ∀ (pins : List (Addr × Obj)) (s : Shared) (σ : St) (H : Hp) (vs : List V) (us : List Value) (Q : St → Hp → Prop), Inv X pins σ H s → Vals vs us → t vs σ H Q →
    wpAny (model X.prog X.w) X.A (assignInOrder ((assignEach ts X.env).map (·.2)) us) (fun _ s' => ∃ σ' H', Inv X pins σ' H' s' ∧ Q σ' H') X.xe s
/-- o[i] = v, by values -/
abbrev TSet := V → V → V → Hp → (Hp → Prop) → Prop
def PSet (X : Cx) (t : TSet) : Prop :=
  ∀ (pins : List (Addr × Obj)) (s : Shared) (σ : St) (H : Hp) (o i v : V) (ov iv u : Value) (Q : Hp → Prop), Inv X pins σ H s → RelV o ov → RelV i iv → RelV v u → t o i v H Q →
    wpAny (model X.prog X.w) X.A (setItem ov iv u) (fun _ s' => ∃ H', Inv X pins σ H' s' ∧ Q H') X.xe s
/-- a op= b, by values -/
abbrev TIp := V → V → Hp → VK → Prop
def PIp (X : Cx) (op : Operator) (t : TIp) : Prop :=
  ∀ (pins : List (Addr × Obj)) (s : Shared) (σ : St) (H : Hp) (x y : V) (v u : Value) (Q : VK), Inv X pins σ H s → RelV x v → RelV y u → t x y H Q →
    wpAny (model X.prog X.w) X.A (inplaceOp op v u) (EP X pins σ Q) X.xe s
section
variable {X : Cx} {pos : Pos}
def gName (i : Nat) : TG := fun v σ H Q => Q (σ.set i (some v)) H
theorem pg_name {i : Nat} {x : Str} (hN : X.N.Nodup) (hi : X.N[i]? = some x) (hx : Loc X.env.scope x) (hf : X.fn x = true ∨ X.env.scope.names.lookup x = some .local := by first | exact .inl rfl | exact .inr rfl | assumption) : PG X (.Name x pos) (gName i) := by
  intro pins s σ H v u Q I r h
  exact wpAny_assign_Name (store_ok I hN hi hx r (fun s' I' => ⟨_, H, I', h⟩) hf)
def gNil : TGs := fun vs σ H Q => vs = [] ∧ Q σ H
def gCons (t : TG) (u : TGs) : TGs := fun vs σ H Q => ∃ v r, vs = v :: r ∧ t v σ H fun σ' H' => u r σ' H' Q
theorem pgs_nil : PGs X [] gNil := by
  intro pins s σ H vs us Q I r h
  obtain ⟨e, h⟩ := h
  subst e
  cases r
  exact assignInOrder_nil ⟨σ, H, I, h⟩
theorem pgs_cons {e : Expr} {es : List Expr} {t : TG} {u : TGs} (h1 : PG X e t) (h2 : PGs X es u)
    (hs : (assignEach (e :: es) X.env).map (·.2) = assign e X.env :: (assignEach es X.env).map (·.2) := by rfl) : PGs X (e :: es) (gCons t u) := by
  intro pins s σ H vs us Q I r h
  obtain ⟨v, vr, e1, h⟩ := h
  subst e1
  cases r with
  | cons r rr =>
    rw [hs]
    refine assignInOrder_cons (thn (h1 pins s σ H _ _ _ I r h) fun _ s1 ⟨σ1, H1, I1, q1⟩ => ?_)
    exact h2 pins s1 σ1 H1 _ _ Q I1 rr q1
/-- (a, b, ..) = a tuple of that length -/
def gTup (K : PySem.W.Frag) (n : Nat) (t : TGs) : TG := fun v σ H Q => ∃ a xs, v = .ref a ∧ SqT K H a xs ∧ xs.length = n ∧ t xs σ H Q
theorem pg_tup {es : List Expr} {k : Nat} {t : TGs} {n : Nat} (hc : X.calm = true) (h : PGs X es t)
    (hn : (assignEach es X.env).length = n := by rfl) (hst : (assignEach es X.env).findIdx? (·.1) = none := by rfl) : PG X (.Tuple es k pos) (gTup X.K n t) := by
  intro pins s σ H v u Q I r hw
  obtain ⟨a, xs, e1, hq, hl, hw⟩ := hw
  subst e1
  cases r
  obtain ⟨its, rv, ht, hz⟩ := I.tuple hq
  refine assign_Tuple_tuple (I.ok.hd hc) ht (by simp [hn, ← hl, rv.length]) hst fun h' hx => ?_
  have I1 : Inv X pins σ H { s with heap := h' } := I.kept (t' := s.toks) fun b o e => hx b o (Nat.ne_of_lt (Heap.lt_size e)) e
  exact h pins _ σ H xs _ Q I1 (by simpa using rv) hw
/-- o[i] = .. -/
def gSub (to ti : TE) (t : TSet) : TG := fun v σ H Q => to σ H fun o H1 => ti σ H1 fun i H2 => t o i v H2 fun H3 => Q σ H3
theorem pg_sub {o i : Expr} {to ti : TE} {t : TSet} (ho : PE X o to) (hi : PE X i ti) (hs : PSet X t)
    (ha : ∀ v, assign (.Subscript o i pos) X.env v = (do
      let ov ← holding [v] (eval o X.env)
      let iv ← holding [v, ov] (eval i X.env)
      standAt pos
      holding [v, ov, iv] (setItem ov iv v)
      release [v, ov, iv] []) := by intro _; rfl) : PG X (.Subscript o i pos) (gSub to ti t) := by
  intro pins s σ H v u Q I r h
  rw [ha]
  refine wpAny_bind (wpAny_holding (thn (ho pins s σ H _ I h) fun ov s1 ⟨x, H1, I1, r1, q1⟩ => ?_))
  refine wpAny_bind (wpAny_holding (thn (hi pins s1 σ H1 _ I1 q1) fun iv s2 ⟨y, H2, I2, r2, q2⟩ => ?_))
  refine wpAny_bind (wpAny_standAt (wpAny_bind (wpAny_holding (thn (hs pins s2 σ H2 x y v ov iv u _ I2 r1 r2 r q2) fun _ s3 ⟨H3, I3, q3⟩ => ?_))))
  exact wpAny_release ⟨σ, H3, I3, q3⟩
/-- target = value -/
def tAsg (te : TE) (g : TG) : TS := fun D σ H => te σ H fun x H1 => g x σ H1 D.nx
theorem ps_asg {tg e : Expr} {te : TE} {g : TG} (he : PE X e te) (hg : PG X tg g) (hs : swapsWithSole [tg] e pos.line X.env = pure false := by rfl) (hw : swappedStores [tg] e X.env = pure none := by rfl)
    (h1 : (assignEach [tg] X.env).map (·.2) = [assign tg X.env] := by rfl) : PS X (.Assign [tg] e pos) (tAsg te g) := by
  intro pins s σ H D I h
  refine wpAny_Assign_stores (thn (he pins s σ H _ I h) fun v s1 ⟨x, H1, I1, r1, q1⟩ => ?_) hs hw
  rw [h1]
  exact thn (hg pins s1 σ H1 x v _ I1 r1 q1) fun _ s2 q => q
/-- name = value -/
theorem ps_set {i : Nat} {x : Str} {e : Expr} {te : TE} {pos' : Pos} (hN : X.N.Nodup) (hi : X.N[i]? = some x) (hx : Loc X.env.scope x) (he : PE X e te) (hs : swapsWith e (some (.Name x pos')) pos.line X.env = pure false := by rfl) (hf : X.fn x = true ∨ X.env.scope.names.lookup x = some .local := by first | exact .inl rfl | exact .inr rfl | assumption) :
    PS X (.Assign [.Name x pos'] e pos) (tAsg te (gName i)) := by
  intro pins s σ H D I h
  refine wpAny_Assign_Name (thn (he pins s σ H _ I h) fun v s1 ⟨y, H1, I1, r1, q1⟩ => ?_) hs
  exact store_ok I1 hN hi hx r1 (fun s2 I2 => ⟨_, H1, I2, q1⟩) hf
/-- a, b = x, y with plain local names: stored from the right; the pair itself is not tracked (the opening rows as in PyProof/Rows/TupAssign.lean:23) -/
def tPar (i j : Nat) (ta : TA) : TS := fun D σ H => ta σ H fun vs H1 => ∃ v w, vs = [v, w] ∧ D.nx ((σ.set i (some v)).set j (some w)) H1
theorem ps_par {i j : Nat} {x y : Str} {a b : Expr} {ta : TA} {px py pt : Pos} {kt k2 pt2} (hc : X.calm = true) (hN : X.N.Nodup) (hi : X.N[i]? = some x) (hj : X.N[j]? = some y) (hij : i ≠ j)
    (hx : X.env.scope.names.lookup x = some .local) (hy : X.env.scope.names.lookup y = some .local) (ha : PA X [a, b] ta)
    (hw : swappedStores [.Tuple [.Name x px, .Name y py] kt pt] (.Tuple [a, b] k2 pt2) X.env = pure (some [x, y]))
    (hs : swapsWithSole [.Tuple [.Name x px, .Name y py] kt pt] (.Tuple [a, b] k2 pt2) pos.line X.env = pure false := by rfl) :
    PS X (.Assign [.Tuple [.Name x px, .Name y py] kt pt] (.Tuple [a, b] k2 pt2) pos) (tPar i j ta) := by
  intro pins s σ H D I h
  rw [exec_Assign_arm]
  refine wpAny_bind (wpAny_standAt ?_)
  rw [hs]
  refine wpAny_bind (wpAny_pure ?_)
  rw [if_neg (by decide)]
  refine wpAny_bind (Tuple_ (thn (ha _ pins s σ H _ I h) fun us s1 ⟨vs, H1, I1, r1, q1⟩ => ?_))
  obtain ⟨v, w, e1, q1⟩ := q1
  subst e1
  obtain ⟨u1, u2, rfl, rv, rw'⟩ : ∃ u1 u2, us = [u1, u2] ∧ RelV v u1 ∧ RelV w u2 := by
    cases r1 with
    | cons p q =>
      cases q with
      | cons p' q' =>
        cases q'
        exact ⟨_, _, rfl, p, p'⟩
  refine wpAny_newObj_type ?_ (by show 2 ≤ sizeLine; decide)
  have I2 : Inv X pins σ H1 { s1 with heap := s1.heap.push { cls := .type "tuple", data := .seq [u1, u2].toArray } } := I1.kept (t' := s1.toks) fun b o e => Heap.get?_push_of_some _ e
  rw [hw]
  refine wpAny_bind (wpAny_pure ?_)
  show wpAny (model X.prog X.w) X.A (do rule "assign.swapped-stores"; let items ← unpackItems (.ref s1.heap.objs.size) 2 none; assignInOrder [fun v => bindName X.env y v, fun v => bindName X.env x v] items.reverse; pure Flow.next) _ _ _
  refine wpAny_bind (wpAny_rule (wpAny_bind (unpackItems_tuple (items := #[u1, u2]) (I.ok.hd hc) (IsTup.new s1.heap _) fun h' hx' => ?_)))
  have I3 := I2.kept (h' := h') (t' := s1.toks) fun b o e => hx' b o (Nat.ne_of_lt (Heap.lt_size e)) e
  show wpAny _ _ (assignInOrder [fun v => bindName X.env y v, fun v => bindName X.env x v] [u2, u1] >>= fun _ => pure Flow.next) _ _ _
  refine wpAny_bind (assignInOrder_cons (wpAny_bindName (store_ok I3 hN hj (.inl hy) rw' (fun s2 I4 => ?_) (.inr hy))))
  refine assignInOrder_cons (wpAny_bindName (store_ok I4 hN hi (.inl hx) rv (fun s3 I5 => assignInOrder_nil (wpAny_pure ?_)) (.inr hx)))
  rw [List.set_comm _ _ (Ne.symm hij)] at I5
  exact ⟨_, H1, I5, q1⟩
/-- name op= e -/
def tAug (i : Nat) (te : TE) (ti : TIp) : TS := fun D σ H => ∃ x, σ[i]? = some (some x) ∧ te σ H fun y H1 => ti x y H1 fun z H2 => D.nx (σ.set i (some z)) H2
theorem ps_aug {i : Nat} {x : Str} {e : Expr} {te : TE} {op : Operator} {ti : TIp} {pos' : Pos} (hN : X.N.Nodup) (hi : X.N[i]? = some x) (hx : Loc X.env.scope x) (he : PE X e te) (ho : PIp X op ti) (hf : X.fn x = true ∨ X.env.scope.names.lookup x = some .local := by first | exact .inl rfl | exact .inr rfl | assumption) :
    PS X (.AugAssign (.Name x pos') op e pos) (tAug i te ti) := by
  intro pins s σ H D I h
  obtain ⟨v, e1, h⟩ := h
  obtain ⟨m, hn, hl⟩ := I.loc
  have vis : Vis X.env.scope x := by rcases hx with k | k; exact .inl k; exact .inr (.inl k)
  obtain ⟨u, r, l⟩ := hl i x v hi e1 vis
  refine wpAny_AugAssign_Name ?_
  have go : wpAny (model X.prog X.w) X.A (eval e X.env) (fun w s₂ => wpAny (model X.prog X.w) X.A (inplaceOp op u w) (fun r s₃ => wpAny (model X.prog X.w) X.A (storeName X.env x r) (fun _ => SP X pins D .next) X.xe s₃) X.xe s₂) X.xe s := by
    refine thn (he pins s σ H _ I h) fun w s1 ⟨y, H1, I1, r1, q1⟩ => ?_
    refine thn (ho pins s1 σ H1 v y u w _ I1 r r1 q1) fun z s2 ⟨zv, H2, I2, r2, q2⟩ => ?_
    exact store_ok I2 hN hi hx r2 (fun s3 I3 => ⟨_, H2, I3, q2⟩) hf
  rcases l with ⟨hk, hm⟩ | ⟨hk, c, hc, hcell⟩
  · exact wpAny_loadName_local I.ok.kind hk hn hm go
  · rcases hk with hk | hk
    · exact wpAny_loadName_cell I.ok.kind hk hc hcell go
    · rcases hx with k | k
      · have : X.env.scope.names.lookup x = some .free := hk
        rw [k] at this; cases this
      · have : X.env.scope.names.lookup x = some .free := hk
        rw [k] at this; cases this
/-- o[i] op= e -/
def tAugS (to ti te : TE) (tget : V → V → Hp → VK → Prop) (tip : TIp) (tset : TSet) : TS := fun D σ H => to σ H fun o H1 => ti σ H1 fun i H2 => tget o i H2 fun x H3 => te σ H3 fun y H4 => tip x y H4 fun z H5 => tset o i z H5 fun H6 => D.nx σ H6
/-- o[i], by values -/
def PGet (X : Cx) (t : V → V → Hp → VK → Prop) : Prop :=
  ∀ (pins : List (Addr × Obj)) (s : Shared) (σ : St) (H : Hp) (o i : V) (ov iv : Value) (Q : VK), Inv X pins σ H s → RelV o ov → RelV i iv → t o i H Q →
    wpAny (model X.prog X.w) X.A (getItem ov iv) (EP X pins σ Q) X.xe s
theorem ps_augS {o i e : Expr} {to ti te : TE} {tget : V → V → Hp → VK → Prop} {tip : TIp} {tset : TSet} {op : Operator} {tpos : Pos} (ho : PE X o to) (hi : PE X i ti) (hg : PGet X tget) (he : PE X e te) (hp : PIp X op tip) (hs : PSet X tset)
    (ha : ∀ ov iv new, augStore i ov iv new = (do holding [new, ov, iv] (setItem ov iv new); release [new, ov, iv] []; pure .next) := by intros; rfl) : PS X (.AugAssign (.Subscript o i tpos) op e pos) (tAugS to ti te tget tip tset) := by
  intro pins s σ H D I h
  refine wpAny_AugAssign_SubscriptAny (thn (ho pins s σ H _ I h) fun ov s1 ⟨x1, H1, I1, r1, q1⟩ => ?_) ha
  refine thn (hi pins s1 σ H1 _ I1 q1) fun iv s2 ⟨x2, H2, I2, r2, q2⟩ => ?_
  refine thn (hg pins s2 σ H2 x1 x2 ov iv _ I2 r1 r2 q2) fun old s3 ⟨x3, H3, I3, r3, q3⟩ => ?_
  refine thn (he pins s3 σ H3 _ I3 q3) fun v s4 ⟨x4, H4, I4, r4, q4⟩ => ?_
  refine thn (hp pins s4 σ H4 x3 x4 old v _ I4 r3 r4 q4) fun new s5 ⟨x5, H5, I5, r5, q5⟩ => ?_
  exact thn (hs pins s5 σ H5 x1 x2 x5 ov iv new _ I5 r1 r2 r5 q5) fun _ s6 ⟨H6, I6, q6⟩ => ⟨σ, H6, I6, q6⟩
/-- ints -/
def ipI (f : Int → Int → Int) : TIp := fun x y H Q => ∃ i j, x = .int i ∧ y = .int j ∧ Q (.int (f i j)) H
theorem ip_add : PIp X .Add (ipI fun i j => i + j) := by
  intro pins s σ H x y v u Q I r1 r2 h
  obtain ⟨i, j, e1, e2, q⟩ := h
  subst e1; subst e2
  obtain ⟨t, rfl⟩ := r1
  obtain ⟨t', rfl⟩ := r2
  exact iadd_int ⟨.int _, H, I.tok _, ⟨_, rfl⟩, q⟩
theorem ip_sub : PIp X .Sub (ipI fun i j => i - j) := by
  intro pins s σ H x y v u Q I r1 r2 h
  obtain ⟨i, j, e1, e2, q⟩ := h
  subst e1; subst e2
  obtain ⟨t, rfl⟩ := r1
  obtain ⟨t', rfl⟩ := r2
  exact isub_int ⟨.int _, H, I.tok _, ⟨_, rfl⟩, q⟩
end

/-! ### while -/
section
variable {X : Cx} {pos : Pos}
/-- the invariant W with its measure -/
def tWhile (c : TT) (tb : TS) : TS := fun D σ H => ∃ W : Nat → St → Hp → Prop, (∃ m, W m σ H) ∧ ∀ m σ H, W m σ H →
  c σ H fun b H1 => if b = true then ∃ N : St → Hp → Prop, (∀ σ' H', N σ' H' → ∃ m', m' < m ∧ W m' σ' H') ∧ tb { D with nx := N, ct := N, bk := D.nx } σ H1 else D.nx σ H1
theorem ps_while {c : Expr} {body : List Stmt} {tc : TT} {tb : TS} (hp : PassesOwn (model X.prog X.w) X.A X.env X.xe) (hc : PT X c tc) (hb : PSs X body tb) : PS X (.While c body [] pos) (tWhile tc tb) := by
  intro pins s σ H D I h
  obtain ⟨W, ⟨m0, w0⟩, turn⟩ := h
  refine wpAny_While (codeAny_whileLoop (fun n s' => ∃ σ' H', Inv X pins σ' H' s' ∧ W n σ' H') ?_ m0 ⟨σ, H, I, w0⟩)
  rintro n s1 ⟨σ1, H1, I1, w1⟩
  refine wpAny_passesOwn hp (thn (hc pins s1 σ1 H1 _ I1 (turn n σ1 H1 w1)) fun b s2 ⟨H2, I2, q2⟩ => ?_)
  cases b with
  | true =>
    obtain ⟨N, hN, q2⟩ := q2
    rw [if_pos rfl]
    refine wpAny_passesOwn hp (thn (hb pins s2 σ1 H2 _ I2 q2) fun f s3 q3 => ?_)
    cases f with
    | next =>
      obtain ⟨σ3, H3, I3, n3⟩ := q3
      obtain ⟨m', hm, w3⟩ := hN σ3 H3 n3
      exact ⟨m', hm, σ3, H3, I3, w3⟩
    | cont =>
      obtain ⟨σ3, H3, I3, n3⟩ := q3
      obtain ⟨m', hm, w3⟩ := hN σ3 H3 n3
      exact ⟨m', hm, σ3, H3, I3, w3⟩
    | brk => exact q3
    | ret v => exact q3
  | false =>
    rw [if_neg Bool.false_ne_true]
    exact wpAny_execs_nil ⟨σ1, H2, I2, q2⟩
end

/-! ### what a loop or a comprehension walks -/
/-- at turn i: it yields x (the heap may grow), or it stops -/
structure It where
  go : Nat → Hp → Prop
  yld : Nat → Hp → V → Hp → Prop
  stop : Nat → Hp → Prop
/-- the iterator's own objects may turn: they are not the frame's, not pinned, younger than the entry (or a comprehension's own) -/
def FpOk (X : Cx) (pins : List (Addr × Obj)) (H : Hp) (b : Addr) : Prop :=
  H b = none ∧ b ≠ X.env.locals ∧ b ∉ X.fs ∧ (b ∈ X.ex ∨ X.s₀.heap.objs.size ≤ b) ∧ (∀ x c, X.env.cells.lookup x = some c → c ≠ b) ∧ ∀ p ∈ X.pn ++ pins, p.1 ≠ b
theorem Inv.fpOk {X : Cx} {pins : List (Addr × Obj)} {σ : St} {H H' : Hp} {s : Shared} {b : Addr} (I : Inv X pins σ H s) (hb : s.heap.objs.size ≤ b) (hn : H' b = none) : FpOk X pins H' b := by
  refine ⟨hn, Nat.ne_of_gt (Nat.lt_of_lt_of_le I.lt hb), I.nofs hb, .inr (Nat.le_trans I.sz hb), fun x c e z => ?_, fun p hp z => ?_⟩
  · obtain ⟨v, q⟩ := I.cell x c e
    exact absurd (Nat.lt_of_lt_of_le q.lt (by rw [z]; exact hb)) (Nat.lt_irrefl _)
  · exact absurd (Nat.lt_of_lt_of_le (Heap.lt_size (I.pin p hp).1) (by rw [z]; exact hb)) (Nat.lt_irrefl _)
structure Turn (P : Program) (w : World) (K : PySem.W.Frag) (tg : Expr) (J : It) (fp : List Addr) (it : Addr) (tn : Nat → Heap → Prop) : Prop where
  mem : it ∈ fp
  obj : ∀ i h, tn i h → ∀ b ∈ fp, ∃ o, h.get? b = some o ∧ ∀ v, o.data ≠ .cell v
  keep : ∀ i h h', tn i h → (∀ b ∈ fp, ∀ o, h.get? b = some o → h'.get? b = some o) → tn i h'
  item : ∀ (X : Cx), X.prog = P → X.w = w → X.K = K → X.calm = true → ∀ (i : Nat) (pins : List (Addr × Obj)) (s : Shared) (σ : St) (H : Hp) (E : Value → Shared → Prop), Inv X pins σ H s → (∀ b ∈ fp, FpOk X pins H b) → tn i s.heap → J.go i H →
    wpAny (model P w) X.A (pyNext (.ref it)) (fun r s1 => ∃ u, r = some u ∧
      wpAny (model P w) X.A (letOwnedTupleGo tg (.ref it) u) (fun _ s2 => ∃ x H', Inv X pins σ H' s2 ∧ RelV x u ∧ J.yld i H x H' ∧ tn (i + 1) s2.heap ∧ ∀ b ∈ fp, H' b = none) E s1) E s
  done : ∀ (X : Cx), X.prog = P → X.w = w → X.K = K → X.calm = true → ∀ (i : Nat) (pins : List (Addr × Obj)) (s : Shared) (σ : St) (H : Hp) (E : Value → Shared → Prop), Inv X pins σ H s → (∀ b ∈ fp, FpOk X pins H b) → tn i s.heap → J.stop i H →
    wpAny (model P w) X.A (pyNext (.ref it)) (fun r s1 => r = none ∧ Inv X pins σ H s1) E s
  self : ∀ (A : Around) (i : Nat) (s : Shared) (Q : Value → Shared → Prop) (E : Value → Shared → Prop), tn i s.heap → Q (.ref it) s → wpAny (model P w) A (pyIter (.ref it)) Q E s
abbrev TI := St → Hp → (It → Hp → Prop) → Prop
/-- an iterator has come -/
def PIE (X : Cx) (pins : List (Addr × Obj)) (σ : St) (tg : Expr) (R : It → Hp → Prop) (itv : Value) (s2 : Shared) : Prop :=
  ∃ (it : Addr) (fp : List Addr) (tn : Nat → Heap → Prop) (J : It) (H' : Hp), itv = .ref it ∧ Inv X pins σ H' s2 ∧ Turn X.prog X.w X.K tg J fp it tn ∧ tn 0 s2.heap ∧ (∀ b ∈ fp, FpOk X pins H' b) ∧ R J H'
def PI (X : Cx) (tg iter : Expr) (wi : TI) : Prop :=
  ∀ (pins : List (Addr × Obj)) (s : Shared) (σ : St) (H : Hp) (R : It → Hp → Prop), Inv X pins σ H s → wi σ H R →
    wpAny (model X.prog X.w) X.A (eval iter X.env) (fun v s1 => wpAny (model X.prog X.w) X.A (pyIter v) (PIE X pins σ tg R) X.xe s1) X.xe s

/-- the step ahead of the store is nothing for an iterator that keeps no tuple -/
theorem go_of {M : Model} {A : Around} {E : Value → Shared → Prop} {s : Shared} {tg : Expr} {it : Addr} {u : Value} {o : Obj} {n : String} {vs : Array Value} {Q : Unit → Shared → Prop} (ho : s.heap.get? it = some o) (hc : o.cls = .type n) (hd : o.data = .fields vs)
    (hn : ["enumerate", "zip", "dict_itemiterator", "dict_reverseitemiterator", "odict_iterator", "itertools.zip_longest", "itertools.pairwise"].contains n = false) (hQ : Q () s) : wpAny M A (letOwnedTupleGo tg (.ref it) u) Q E s := by
  unfold letOwnedTupleGo
  cases tg <;> first
    | exact wpAny_pure hQ
    | (cases u <;> first
        | exact wpAny_pure hQ
        | (refine wpAny_bind (wpAny_load ho ?_)
           rw [hc, hd]
           show wpAny M A (if (["enumerate", "zip", "dict_itemiterator", "dict_reverseitemiterator", "odict_iterator", "itertools.zip_longest", "itertools.pairwise"].contains n && vs[0]? == some (rawInt _)) = true then _ else _) Q E s
           rw [if_neg (by intro h; rw [hn, Bool.false_and] at h; cases h)]
           exact wpAny_pure hQ))

/-- the list at a, as it stands at each turn (a loop may append to it) -/
def Itl (K : PySem.W.Frag) (a : Addr) : It :=
  ⟨fun i H => ∃ xs x, SqL K H a xs ∧ xs[i]? = some x, fun i H x H' => H' = H ∧ ∀ xs, SqL K H a xs → xs[i]? = some x, fun i H => ∃ xs, SqL K H a xs ∧ xs.length ≤ i⟩
def Itt (K : PySem.W.Frag) (a : Addr) : It :=
  ⟨fun i H => ∃ xs x, SqT K H a xs ∧ xs[i]? = some x, fun i H x H' => H' = H ∧ ∀ xs, SqT K H a xs → xs[i]? = some x, fun i H => ∃ xs, SqT K H a xs ∧ xs.length ≤ i⟩
/-- lo, lo + 1, .. (n of them) -/
def Itr (lo : Int) (n : Nat) : It := ⟨fun i _ => i < n, fun i H x H' => H' = H ∧ x = .int (lo + i), fun i _ => n ≤ i⟩
theorem turn_list {P : Program} {w : World} {K : PySem.W.Frag} {tg : Expr} (a it : Addr) : Turn P w K tg (Itl K a) [it] it (fun i h => h.IsListIter it a i) where
  mem := by simp
  obj := fun i h st b hb => by
    have e : b = it := by simpa using hb
    subst e
    obtain ⟨o, e, c, d⟩ := st
    exact ⟨o, e, fun v z => by rw [d] at z; cases z⟩
  keep := fun i h h' st k => st.at fun o e => k it (by simp) o e
  item := by
    intro X hP hw hK hc i pins s σ H E I hf st hg
    subst hP hw hK
    obtain ⟨xs, x, hq, hx⟩ := hg
    obtain ⟨its, rv, p, hz⟩ := I.list hq
    obtain ⟨u, hu, ru⟩ := rv.get hx
    obtain ⟨f0, f1, f2, f3, f4, f5⟩ := hf it (by simp)
    refine wpAny_pyNext_list_item st p.isList (x := u) (by simpa using hu) fun h' st' sb => ?_
    have I1 : Inv X pins σ H { s with heap := h' } := I.turned (t' := s.toks) (fun b o hb e => (sb.2 b hb).trans e) f0 f1 f3 f4 f5
    obtain ⟨o, e, c, d⟩ := id st'
    exact ⟨u, rfl, go_of (s := { s with heap := h' }) e c d (by decide) ⟨x, H, I1, ru, ⟨rfl, fun ys hy => by rw [I.list_inj hy hq]; exact hx⟩, st', fun b hb => (hf b hb).1⟩⟩
  done := by
    intro X hP hw hK hc i pins s σ H E I hf st hg
    subst hP hw hK
    obtain ⟨xs, hq, hx⟩ := hg
    obtain ⟨its, rv, p, hz⟩ := I.list hq
    obtain ⟨f0, f1, f2, f3, f4, f5⟩ := hf it (by simp)
    have hl := rv.length
    exact wpAny_pyNext_list_end (I.ok.hd hc) st p.isList (by simp; omega) fun h' eb => ⟨rfl, I.turned (t' := s.toks) (fun b o hb e => eb b o hb e) f0 f1 f3 f4 f5⟩
  self := fun _ _ _ _ _ st h => wpAny_pyIter_listiter st h
theorem turn_tuple {P : Program} {w : World} {K : PySem.W.Frag} {tg : Expr} (a it : Addr) : Turn P w K tg (Itt K a) [it] it (fun i h => h.IsTupleIter it a i) where
  mem := by simp
  obj := fun i h st b hb => by
    have e : b = it := by simpa using hb
    subst e
    obtain ⟨o, e, c, d⟩ := st
    exact ⟨o, e, fun v z => by rw [d] at z; cases z⟩
  keep := fun i h h' st k => st.at fun o e => k it (by simp) o e
  item := by
    intro X hP hw hK hc i pins s σ H E I hf st hg
    subst hP hw hK
    obtain ⟨xs, x, hq, hx⟩ := hg
    obtain ⟨its, rv, p, hz⟩ := I.tuple hq
    obtain ⟨u, hu, ru⟩ := rv.get hx
    obtain ⟨f0, f1, f2, f3, f4, f5⟩ := hf it (by simp)
    refine wpAny_pyNext_tuple_item st (show s.heap.IsTuple a its.toArray from p) (x := u) (by simpa using hu) fun h' st' sb => ?_
    have I1 : Inv X pins σ H { s with heap := h' } := I.turned (t' := s.toks) (fun b o hb e => (sb.2 b hb).trans e) f0 f1 f3 f4 f5
    obtain ⟨o, e, c, d⟩ := id st'
    exact ⟨u, rfl, go_of (s := { s with heap := h' }) e c d (by decide) ⟨x, H, I1, ru, ⟨rfl, fun ys hy => by rw [I.tuple_inj hy hq]; exact hx⟩, st', fun b hb => (hf b hb).1⟩⟩
  done := by
    intro X hP hw hK hc i pins s σ H E I hf st hg
    subst hP hw hK
    obtain ⟨xs, hq, hx⟩ := hg
    obtain ⟨its, rv, p, hz⟩ := I.tuple hq
    obtain ⟨f0, f1, f2, f3, f4, f5⟩ := hf it (by simp)
    have hl := rv.length
    exact wpAny_pyNext_tuple_end (I.ok.hd hc) st (show s.heap.IsTuple a its.toArray from p) (by simp; omega) fun h' eb => ⟨rfl, I.turned (t' := s.toks) (fun b o hb e => eb b o hb e) f0 f1 f3 f4 f5⟩
  self := fun _ _ _ _ _ st h => wpAny_pyIter_tupleiter st h
theorem turn_range {P : Program} {w : World} {K : PySem.W.Frag} {tg : Expr} (it : Addr) (lo : Int) (n : Nat) : Turn P w K tg (Itr lo n) [it] it (fun i h => IsRangeIter h it (lo + (i : Nat) * 1) ((n : Int) - (i : Nat)) 1) where
  mem := by simp
  obj := fun i h st b hb => by
    have e : b = it := by simpa using hb
    subst e
    exact ⟨_, st, fun v z => by
      have z' : Data.fields _ = Data.cell v := z
      cases z'⟩
  keep := fun i h h' st k => k it (by simp) _ st
  item := by
    intro X hP hw hK hc i pins s σ H E I hf st hg
    subst hP hw hK
    obtain ⟨f0, f1, f2, f3, f4, f5⟩ := hf it (by simp)
    have W := Walks.range (prog := X.prog) (w := X.w) (I.ok.hd hc) it lo 1 n
    refine W.item i s _ _ hg st fun v h' tk hv st' kk => ?_
    obtain ⟨t, rfl⟩ := hv
    have I1 : Inv X pins σ H { s with heap := h', toks := tk } := I.turned (fun b o hb e => kk b o (by simpa using hb) e) f0 f1 f3 f4 f5
    refine ⟨_, rfl, go_of (s := { s with heap := h', toks := tk }) (n := "range_iterator") st' rfl rfl (by decide) ⟨.int (lo + i), H, I1, ⟨t, ?_⟩, ⟨rfl, rfl⟩, st', fun b hb => (hf b hb).1⟩⟩
    rw [Int.mul_one]
  done := by
    intro X hP hw hK hc i pins s σ H E I hf st hg
    subst hP hw hK
    obtain ⟨f0, f1, f2, f3, f4, f5⟩ := hf it (by simp)
    exact wpAny_pyNext_range_end (I.ok.hd hc) st (by have : n ≤ i := hg; omega) fun h' eb => ⟨rfl, I.turned (t' := s.toks) (fun b o hb e => eb b o hb e) f0 f1 f3 f4 f5⟩
  self := fun _ _ _ _ _ st h => wpAny_pyIter_rangeiter st h
end L2

namespace L2
open PySem PySem.Spec PyProof.Rows
section
variable {X : Cx} {tg : Expr}
def iList (K : PySem.W.Frag) (tl : TE) : TI := fun σ H R => tl σ H fun x H1 => ∃ a, x = .ref a ∧ (∃ xs, SqL K H1 a xs) ∧ R (Itl K a) H1
def iTup (K : PySem.W.Frag) (tl : TE) : TI := fun σ H R => tl σ H fun x H1 => ∃ a, x = .ref a ∧ (∃ xs, SqT K H1 a xs) ∧ R (Itt K a) H1
theorem pi_list {l : Expr} {tl : TE} (hl : PE X l tl) : PI X tg l (iList X.K tl) := by
  intro pins s σ H R I h
  refine thn (hl pins s σ H _ I h) fun v s1 ⟨x, H1, I1, r1, q1⟩ => ?_
  obtain ⟨a, e, ⟨xs, hq⟩, q⟩ := q1
  subst e
  cases r1
  obtain ⟨its, rv, p, hz⟩ := I1.list hq
  refine wpAny_pyIter_list p.isList ?_
  refine ⟨s1.heap.objs.size, [s1.heap.objs.size], _, _, H1, rfl, I1.kept (t' := s1.toks) fun b o e => Heap.get?_push_of_some _ e, turn_list a _, ⟨_, Heap.get?_push_size _ rfl, rfl, rfl⟩, fun b hb => ?_, q⟩
  have e : b = s1.heap.objs.size := by simpa using hb
  subst e
  exact I1.fpOk (Nat.le_refl _) (I1.hok.fresh (Nat.le_refl _))
theorem pi_tup {l : Expr} {tl : TE} (hl : PE X l tl) : PI X tg l (iTup X.K tl) := by
  intro pins s σ H R I h
  refine thn (hl pins s σ H _ I h) fun v s1 ⟨x, H1, I1, r1, q1⟩ => ?_
  obtain ⟨a, e, ⟨xs, hq⟩, q⟩ := q1
  subst e
  cases r1
  obtain ⟨its, rv, p, hz⟩ := I1.tuple hq
  refine wpAny_pyIter_tuple (show s1.heap.IsTuple a its.toArray from p) ?_
  refine ⟨s1.heap.objs.size, [s1.heap.objs.size], _, _, H1, rfl, I1.kept (t' := s1.toks) fun b o e => Heap.get?_push_of_some _ e, turn_tuple a _, ⟨_, Heap.get?_push_size _ rfl, rfl, rfl⟩, fun b hb => ?_, q⟩
  have e : b = s1.heap.objs.size := by simpa using hb
  subst e
  exact I1.fpOk (Nat.le_refl _) (I1.hok.fresh (Nat.le_refl _))
/-- a range object just made, walked -/
theorem range_it {pins : List (Addr × Obj)} {σ : St} {H : Hp} {s : Shared} {R : It → Hp → Prop} {E : Value → Shared → Prop} {lo hi : Int} {t u v : Tok} {tk : Nat} (I : Inv X pins σ H s) (h1 : -(2 ^ 62) ≤ lo) (h2 : lo < 2 ^ 62) (h3 : -(2 ^ 62) ≤ hi) (h4 : hi < 2 ^ 62)
    (q : R (Itr lo (hi - lo).toNat) H) : wpAny (model X.prog X.w) X.A (pyIter (.ref s.heap.objs.size)) (PIE X pins σ tg R) E { s with heap := s.heap.push { cls := .type "range", data := .fields #[.int lo t, .int hi u, .int 1 v] }, toks := tk } := by
  refine wpAny_pyIter_range (IsRange.new ..) (small_one h1 h2 h3 h4) ?_
  have I1 : Inv X pins σ H { s with heap := s.heap.push { cls := .type "range", data := .fields #[.int lo t, .int hi u, .int 1 v] }, toks := tk } := I.kept fun b o e => Heap.get?_push_of_some _ e
  refine ⟨(s.heap.push { cls := .type "range", data := .fields #[.int lo t, .int hi u, .int 1 v] }).objs.size, [(s.heap.push { cls := .type "range", data := .fields #[.int lo t, .int hi u, .int 1 v] }).objs.size], _, _, H, rfl,
    I1.kept (t' := tk) fun b o e => Heap.get?_push_of_some _ e, turn_range _ lo (hi - lo).toNat, ?_, fun b hb => ?_, q⟩
  · have e1 : lo + ((0 : Nat) : Int) * 1 = lo := by simp
    have e2 : (((hi - lo).toNat : Nat) : Int) - ((0 : Nat) : Int) = Builtin.Range.rangeSize lo hi 1 := by rw [rangeSize_one]; split <;> omega
    show IsRangeIter _ _ (lo + ((0 : Nat) : Int) * 1) ((((hi - lo).toNat : Nat) : Int) - ((0 : Nat) : Int)) 1
    rw [e1, e2]
    exact Heap.get?_push_size _ rfl
  · have e : b = (s.heap.push { cls := .type "range", data := .fields #[.int lo t, .int hi u, .int 1 v] }).objs.size := by simpa using hb
    subst e
    exact I1.fpOk (Nat.le_refl _) (I1.hok.fresh (Nat.le_refl _))
def iRng1 (ta : TA) : TI := fun σ H R => ta σ H fun vs H1 => ∃ j : Int, vs = [.int j] ∧ -(2 ^ 62) ≤ j ∧ j < 2 ^ 62 ∧ R (Itr 0 j.toNat) H1
def iRng2 (ta : TA) : TI := fun σ H R => ta σ H fun vs H1 => ∃ i j : Int, vs = [.int i, .int j] ∧ (-(2 ^ 62) ≤ i ∧ i < 2 ^ 62 ∧ -(2 ^ 62) ≤ j ∧ j < 2 ^ 62) ∧ R (Itr i (j - i).toNat) H1
theorem pi_range1 {a : Expr} {ta : TA} {p pos : Pos} (hg : Gl X "range") (hm : X.mg "range" = none) (ha : PA X [a] ta) (hs : starEach [a] X.env = [(false, eval a X.env)] := by rfl) : PI X tg (.Call (.Name "range" p) [a] [] pos) (iRng1 ta) := by
  intro pins s σ H R I h
  refine Call_ (ld_blt I hg hm boot_range (PyProof.Rows.callWith_type1 (thn (ha pos pins s σ H _ I h) fun us s1 ⟨vs, H1, I1, r1, q1⟩ => ?_) hs rfl))
  obtain ⟨j, e, q1, q2, q⟩ := q1
  subst e
  cases r1 with
  | cons r rr =>
    cases rr
    obtain ⟨t, rfl⟩ := r
    exact call_range_1 (range_it I1 (by omega) (by omega) q1 q2 (by simpa using q))
theorem pi_range2 {a b : Expr} {ta : TA} {p pos : Pos} (hg : Gl X "range") (hm : X.mg "range" = none) (ha : PA X [a, b] ta) (hs : starEach [a, b] X.env = [(false, eval a X.env), (false, eval b X.env)] := by rfl) (hs2 : starEach [b] X.env = [(false, eval b X.env)] := by rfl) :
    PI X tg (.Call (.Name "range" p) [a, b] [] pos) (iRng2 ta) := by
  intro pins s σ H R I h
  refine Call_ (ld_blt I hg hm boot_range (PyProof.Rows.callWith_type1 (thn (ha pos pins s σ H _ I h) fun us s1 ⟨vs, H1, I1, r1, q1⟩ => ?_) (by rw [hs, hs2]) (by rw [hs2]; rfl)))
  obtain ⟨i, j, e, ⟨q1, q2, q3, q4⟩, q⟩ := q1
  subst e
  cases r1 with
  | cons r rr =>
    cases rr with
    | cons r' rr =>
      cases rr
      obtain ⟨t, rfl⟩ := r
      obtain ⟨t', rfl⟩ := r'
      exact call_range_2 (range_it I1 q1 q2 q3 q4 q)

/-! ### for -/
/-- W: the invariant by the turn and a measure; N: what the body is to reach -/
def tFor (wi : TI) (g : TG) (tb : TS) : TS := fun D σ H => wi σ H fun J H1 => ∃ W : Nat → Nat → St → Hp → Prop, (∃ m, W 0 m σ H1) ∧ ∀ i m σ H, W i m σ H →
  (J.stop i H ∧ D.nx σ H) ∨ (J.go i H ∧ ∃ N : St → Hp → Prop, (∀ σ' H', N σ' H' → ∃ m', m' < m ∧ W (i + 1) m' σ' H') ∧ ∀ x H', J.yld i H x H' → g x σ H' fun σ2 H2 => tb { D with nx := N, ct := N, bk := D.nx } σ2 H2)
/-- the records at fp as they stand -/
def pinsAt (fp : List Addr) (h : Heap) : List (Addr × Obj) := fp.filterMap fun b => (h.get? b).map fun o => (b, o)
theorem mem_pinsAt {fp : List Addr} {h : Heap} {b : Addr} {o : Obj} (hb : b ∈ fp) (e : h.get? b = some o) : (b, o) ∈ pinsAt fp h := List.mem_filterMap.mpr ⟨b, hb, by rw [e]; rfl⟩
theorem of_pinsAt {fp : List Addr} {h : Heap} {p : Addr × Obj} (hp : p ∈ pinsAt fp h) : p.1 ∈ fp ∧ h.get? p.1 = some p.2 := by
  obtain ⟨b, hb, e⟩ := List.mem_filterMap.mp hp
  cases q : h.get? b with
  | none => rw [q] at e; cases e
  | some o =>
    rw [q] at e
    have e' : (b, o) = p := Option.some.inj e
    subst e'
    exact ⟨hb, q⟩
theorem Inv.pinned {pins : List (Addr × Obj)} {σ : St} {H : Hp} {s : Shared} {fp : List Addr} (I : Inv X pins σ H s) (hf : ∀ b ∈ fp, FpOk X pins H b) (ho : ∀ b ∈ fp, ∃ o, s.heap.get? b = some o ∧ ∀ v, o.data ≠ .cell v) : Inv X (pins ++ pinsAt fp s.heap) σ H s :=
  I.pins_of fun p hp => (List.mem_append.mp hp).elim (fun z => I.pin p (List.mem_append_right _ z)) fun z => by
    obtain ⟨hb, e⟩ := of_pinsAt z
    obtain ⟨f0, f1, f2, _⟩ := hf p.1 hb
    obtain ⟨o, e', d⟩ := ho p.1 hb
    rw [e] at e'; cases e'
    exact ⟨e, f0, f1, f2, d⟩
theorem Inv.unpinned {pins pl : List (Addr × Obj)} {σ : St} {H : Hp} {s : Shared} (I : Inv X (pins ++ pl) σ H s) : Inv X pins σ H s := I.pins_of fun p hp => I.pin p (List.mem_append_right _ (List.mem_append_left _ hp))
theorem ps_for {iter : Expr} {body : List Stmt} {wi : TI} {g : TG} {tb : TS} {pos : Pos} (hp : PassesOwn (model X.prog X.w) X.A X.env X.xe) (hc : X.calm = true) (hi : PI X tg iter wi) (hg : PG X tg g) (hb : PSs X body tb)
    (hs : ∀ x, foldedSetIterable iter X.env x = pure x := by intro _; rfl) : PS X (.For tg iter body [] pos) (tFor wi g tb) := by
  intro pins s σ H D I h
  refine wpAny_For (thn (hi pins s σ H _ I h) fun v s1 h1 => thn h1 fun itv s2 h2 => ?_) hs
  obtain ⟨it, fp, tn, J, H2, e, I2, T, st2, f2, W, ⟨m0, w0⟩, turn⟩ := h2
  subst e
  -- what stays true of the iterator's objects through the loop
  have stat : ∀ {H' : Hp}, (∀ b ∈ fp, H' b = none) → ∀ b ∈ fp, FpOk X pins H' b := fun hn b hb => ⟨hn b hb, (f2 b hb).2⟩
  refine codeAny_forLoop_any (fun n s' => ∃ i σ' H', Inv X pins σ' H' s' ∧ tn i s'.heap ∧ (∀ b ∈ fp, H' b = none) ∧ W i n σ' H') ?_ m0 ⟨0, σ, H2, I2, st2, fun b hb => (f2 b hb).1, w0⟩
  rintro n s3 ⟨i, σ3, H3, I3, st3, fr3, w3⟩
  rcases turn i n σ3 H3 w3 with ⟨stop, qn⟩ | ⟨go, N, hN, step⟩
  · refine wpAny_passesOwn hp (thn (T.done X rfl rfl rfl hc i pins s3 σ3 H3 X.xe I3 (stat fr3) st3 stop) fun r s4 ⟨hr, I4⟩ => ?_)
    subst hr
    exact wpAny_execs_nil ⟨σ3, H3, I4, qn⟩
  · refine wpAny_passesOwn hp (thn (T.item X rfl rfl rfl hc i pins s3 σ3 H3 X.xe I3 (stat fr3) st3 go) fun r s4 ⟨u, hr, h4⟩ => ?_)
    subst hr
    refine wpAny_passesOwn hp (thn h4 fun _ s5 ⟨x, H5, I5, r5, y5, st5, fr5⟩ => ?_)
    have I5' := I5.pinned (stat fr5) (T.obj _ _ st5)
    refine wpAny_passesOwn hp (thn (hg _ s5 σ3 H5 x u _ I5' r5 (step x H5 y5)) fun _ s6 ⟨σ6, H6, I6, q6⟩ => ?_)
    refine wpAny_passesOwn hp (thn (hb _ s6 σ6 H6 _ I6 q6) fun f s7 q7 => ?_)
    have again : ∀ {σ7 : St} {H7 : Hp}, Inv X (pins ++ pinsAt fp s5.heap) σ7 H7 s7 → N σ7 H7 → ∃ m, m < n ∧ ∃ i σ' H', Inv X pins σ' H' s7 ∧ tn i s7.heap ∧ (∀ b ∈ fp, H' b = none) ∧ W i m σ' H' := fun {σ7 H7} I7 n7 => by
      obtain ⟨m', hm, w7⟩ := hN σ7 H7 n7
      refine ⟨m', hm, i + 1, σ7, H7, I7.unpinned, T.keep _ _ _ st5 fun b hb o e => (I7.pin (b, o) (List.mem_append_right _ (List.mem_append_right _ (mem_pinsAt hb e)))).1, fun b hb => ?_, w7⟩
      obtain ⟨o, e, d⟩ := T.obj _ _ st5 b hb
      exact (I7.pin (b, o) (List.mem_append_right _ (List.mem_append_right _ (mem_pinsAt hb e)))).2.1
    cases f with
    | next => obtain ⟨σ7, H7, I7, n7⟩ := q7; exact again I7 n7
    | cont => obtain ⟨σ7, H7, I7, n7⟩ := q7; exact again I7 n7
    | brk => obtain ⟨σ7, H7, I7, q7⟩ := q7; exact ⟨σ7, H7, I7.unpinned, q7⟩
    | ret v => obtain ⟨x7, σ7, H7, I7, r7, q7⟩ := q7; exact ⟨x7, σ7, H7, I7.unpinned, r7, q7⟩
end

/-! ### the forms one uses -/
/-- over a list that the body leaves as it is -/
theorem for_list {K : PySem.W.Frag} {a : Addr} {xs : List V} {g : TG} {tb : TS} {D : Ends} {σ : St} {H : Hp} (Pv : Nat → St → Hp → Prop) (h0 : Pv 0 σ H) (hl : ∀ i σ H, i ≤ xs.length → Pv i σ H → SqL K H a xs)
    (hs : ∀ i x σ H, xs[i]? = some x → Pv i σ H → g x σ H fun σ2 H2 => tb { D with nx := Pv (i + 1), ct := Pv (i + 1), bk := D.nx } σ2 H2) (hd : ∀ σ H, Pv xs.length σ H → D.nx σ H) :
    ∃ W : Nat → Nat → St → Hp → Prop, (∃ m, W 0 m σ H) ∧ ∀ i m σ H, W i m σ H →
      ((Itl K a).stop i H ∧ D.nx σ H) ∨ ((Itl K a).go i H ∧ ∃ N : St → Hp → Prop, (∀ σ' H', N σ' H' → ∃ m', m' < m ∧ W (i + 1) m' σ' H') ∧ ∀ x H', (Itl K a).yld i H x H' → g x σ H' fun σ2 H2 => tb { D with nx := N, ct := N, bk := D.nx } σ2 H2) := by
  refine ⟨fun i m σ H => m = xs.length - i ∧ i ≤ xs.length ∧ Pv i σ H, ⟨xs.length, by simp, Nat.zero_le _, h0⟩, ?_⟩
  rintro i m σ H ⟨rfl, hi, p⟩
  have q := hl i σ H hi p
  by_cases hlt : i < xs.length
  · refine .inr ⟨⟨xs, xs[i], q, by simp [hlt]⟩, Pv (i + 1), fun σ' H' p' => ⟨xs.length - (i + 1), by omega, rfl, hlt, p'⟩, fun x H' y => ?_⟩
    obtain ⟨e, y⟩ := y
    subst e
    exact hs i x σ _ (y xs q) p
  · have e : i = xs.length := by omega
    subst e
    exact .inl ⟨⟨xs, q, Nat.le_refl _⟩, hd σ H p⟩
theorem for_tup {K : PySem.W.Frag} {a : Addr} {xs : List V} {g : TG} {tb : TS} {D : Ends} {σ : St} {H : Hp} (Pv : Nat → St → Hp → Prop) (h0 : Pv 0 σ H) (hl : ∀ i σ H, i ≤ xs.length → Pv i σ H → SqT K H a xs)
    (hs : ∀ i x σ H, xs[i]? = some x → Pv i σ H → g x σ H fun σ2 H2 => tb { D with nx := Pv (i + 1), ct := Pv (i + 1), bk := D.nx } σ2 H2) (hd : ∀ σ H, Pv xs.length σ H → D.nx σ H) :
    ∃ W : Nat → Nat → St → Hp → Prop, (∃ m, W 0 m σ H) ∧ ∀ i m σ H, W i m σ H →
      ((Itt K a).stop i H ∧ D.nx σ H) ∨ ((Itt K a).go i H ∧ ∃ N : St → Hp → Prop, (∀ σ' H', N σ' H' → ∃ m', m' < m ∧ W (i + 1) m' σ' H') ∧ ∀ x H', (Itt K a).yld i H x H' → g x σ H' fun σ2 H2 => tb { D with nx := N, ct := N, bk := D.nx } σ2 H2) := by
  refine ⟨fun i m σ H => m = xs.length - i ∧ i ≤ xs.length ∧ Pv i σ H, ⟨xs.length, by simp, Nat.zero_le _, h0⟩, ?_⟩
  rintro i m σ H ⟨rfl, hi, p⟩
  have q := hl i σ H hi p
  by_cases hlt : i < xs.length
  · refine .inr ⟨⟨xs, xs[i], q, by simp [hlt]⟩, Pv (i + 1), fun σ' H' p' => ⟨xs.length - (i + 1), by omega, rfl, hlt, p'⟩, fun x H' y => ?_⟩
    obtain ⟨e, y⟩ := y
    subst e
    exact hs i x σ _ (y xs q) p
  · have e : i = xs.length := by omega
    subst e
    exact .inl ⟨⟨xs, q, Nat.le_refl _⟩, hd σ H p⟩
theorem for_range {lo : Int} {n : Nat} {g : TG} {tb : TS} {D : Ends} {σ : St} {H : Hp} (Pv : Nat → St → Hp → Prop) (h0 : Pv 0 σ H)
    (hs : ∀ i σ H, i < n → Pv i σ H → g (.int (lo + i)) σ H fun σ2 H2 => tb { D with nx := Pv (i + 1), ct := Pv (i + 1), bk := D.nx } σ2 H2) (hd : ∀ σ H, Pv n σ H → D.nx σ H) :
    ∃ W : Nat → Nat → St → Hp → Prop, (∃ m, W 0 m σ H) ∧ ∀ i m σ H, W i m σ H →
      ((Itr lo n).stop i H ∧ D.nx σ H) ∨ ((Itr lo n).go i H ∧ ∃ N : St → Hp → Prop, (∀ σ' H', N σ' H' → ∃ m', m' < m ∧ W (i + 1) m' σ' H') ∧ ∀ x H', (Itr lo n).yld i H x H' → g x σ H' fun σ2 H2 => tb { D with nx := N, ct := N, bk := D.nx } σ2 H2) := by
  refine ⟨fun i m σ H => m = n - i ∧ i ≤ n ∧ Pv i σ H, ⟨n, by simp, Nat.zero_le _, h0⟩, ?_⟩
  rintro i m σ H ⟨rfl, hi, p⟩
  by_cases hlt : i < n
  · refine .inr ⟨hlt, Pv (i + 1), fun σ' H' p' => ⟨n - (i + 1), by omega, rfl, hlt, p'⟩, fun x H' y => ?_⟩
    obtain ⟨e, y⟩ := y
    subst e y
    exact hs i σ _ hlt p
  · have e : i = n := by omega
    subst e
    exact .inl ⟨Nat.le_refl _, hd σ H p⟩
/-- while, by a word and a measure of the state -/
theorem while_by {c : TT} {tb : TS} {D : Ends} {σ : St} {H : Hp} (Pv : St → Hp → Prop) (μ : St → Hp → Nat) (h0 : Pv σ H)
    (hs : ∀ σ H, Pv σ H → c σ H fun b H1 => if b = true then tb { D with nx := fun σ' H' => Pv σ' H' ∧ μ σ' H' < μ σ H, ct := fun σ' H' => Pv σ' H' ∧ μ σ' H' < μ σ H, bk := D.nx } σ H1 else D.nx σ H1)
    (mono : ∀ σ H Q Q', (∀ b H1, Q b H1 → Q' b H1) → c σ H Q → c σ H Q') : tWhile c tb D σ H := by
  refine ⟨fun m σ H => m = μ σ H ∧ Pv σ H, ⟨_, rfl, h0⟩, ?_⟩
  rintro m σ H ⟨rfl, p⟩
  refine mono σ H _ _ (fun b H1 q => ?_) (hs σ H p)
  cases b with
  | true => exact ⟨_, fun σ' H' ⟨p', l⟩ => ⟨_, l, rfl, p'⟩, q⟩
  | false => exact q
end L2

namespace L2
open PySem PySem.Spec PyProof.Rows

abbrev R2 := V → V → Hp → VK → Prop
/-- a two-place operation on values: f is binaryOp op, inplaceOp op or compareOp op -/
def OpR (X : Cx) (f : Value → Value → Sem Value) (r : R2) : Prop :=
  ∀ (pins : List (Addr × Obj)) (s : Shared) (σ : St) (H : Hp) (x y : V) (v u : Value) (Q : VK), Inv X pins σ H s → RelV x v → RelV y u → r x y H Q →
    wpAny (model X.prog X.w) X.A (f v u) (EP X pins σ Q) X.xe s
/-- a one-place operation -/
def UnR (X : Cx) (f : Value → Sem Value) (r : V → Hp → VK → Prop) : Prop :=
  ∀ (pins : List (Addr × Obj)) (s : Shared) (σ : St) (H : Hp) (x : V) (v : Value) (Q : VK), Inv X pins σ H s → RelV x v → r x H Q →
    wpAny (model X.prog X.w) X.A (f v) (EP X pins σ Q) X.xe s
/-- a call of a value that is known (a builtin, a type) with values -/
def CallR (X : Cx) (f : Value) (r : List V → Hp → VK → Prop) : Prop :=
  ∀ (pins : List (Addr × Obj)) (s : Shared) (σ : St) (H : Hp) (xs : List V) (us : List Value) (Q : VK), Inv X pins σ H s → Vals xs us → r xs H Q →
    wpAny (model X.prog X.w) X.A (call f us) (EP X pins σ Q) X.xe s
/-- a value's truth -/
def TruR (X : Cx) (r : V → Hp → (Bool → Hp → Prop) → Prop) : Prop :=
  ∀ (pins : List (Addr × Obj)) (s : Shared) (σ : St) (H : Hp) (x : V) (v : Value) (Q : Bool → Hp → Prop), Inv X pins σ H s → RelV x v → r x H Q →
    wpAny (model X.prog X.w) X.A (truthy v) (TP X pins σ Q) X.xe s

def tOp (r : R2) (ta tb : TE) : TE := fun σ H Q => ta σ H fun x H1 => tb σ H1 fun y H2 => r x y H2 Q
def tUn (r : V → Hp → VK → Prop) (ta : TE) : TE := fun σ H Q => ta σ H fun x H1 => r x H1 Q
/-- ints in, under C, and a value out -/
def rI (C : Int → Int → Prop) (g : Int → Int → V) : R2 := fun x y H Q => ∃ i j, x = .int i ∧ y = .int j ∧ C i j ∧ Q (g i j) H
def rI0 (g : Int → Int → V) : R2 := fun x y H Q => ∃ i j, x = .int i ∧ y = .int j ∧ Q (g i j) H
def rU (g : Int → V) : V → Hp → VK → Prop := fun x H Q => ∃ i, x = .int i ∧ Q (g i) H

section
variable {X : Cx} {a b c : Expr} {ta tb tc : TE} {pos : Pos}

theorem binT (ha : PE X a ta) (hb : PE X b tb) {pins : List (Addr × Obj)} {s : Shared} {σ : St} {H : Hp} {R : V → V → Hp → Prop} (I : Inv X pins σ H s)
    (h : ta σ H fun x H1 => tb σ H1 fun y H2 => R x y H2) {Q : Value → Shared → Prop} {f : Value → Value → Sem Value}
    (hf : ∀ v u s2 x y H2, Inv X pins σ H2 s2 → RelV x v → RelV y u → R x y H2 → wpAny (model X.prog X.w) X.A (f v u) Q X.xe s2) :
    wpAny (model X.prog X.w) X.A (eval a X.env) (fun v s₁ => wpAny (model X.prog X.w) X.A (eval b X.env) (fun u s₂ => wpAny (model X.prog X.w) X.A (f v u) Q X.xe s₂) X.xe s₁) X.xe s := by
  refine thn (ha pins s σ H _ I h) fun v s1 ⟨x, H1, I1, r1, q1⟩ => ?_
  refine thn (hb pins s1 σ H1 _ I1 q1) fun u s2 ⟨y, H2, I2, r2, q2⟩ => ?_
  exact hf v u s2 x y H2 I2 r1 r2 q2

theorem pe_op {op : Operator} {r : R2} (ho : OpR X (binaryOp op) r) (ha : PE X a ta) (hb : PE X b tb) : PE X (.BinOp a op b pos) (tOp r ta tb) := by
  intro pins s σ H Q I h
  exact wpAny_BinOp (binT ha hb I h fun v u s2 x y H2 I2 rx ry q => ho pins s2 σ H2 x y v u Q I2 rx ry q)
theorem pe_un {op : UnaryOp} {r : V → Hp → VK → Prop} (ho : UnR X (unaryOp op) r) (ha : PE X a ta) : PE X (.UnaryOp op a pos) (tUn r ta) := by
  intro pins s σ H Q I h
  exact UnaryOp_ (thn (ha pins s σ H _ I h) fun v s1 ⟨x, H1, I1, r1, q1⟩ => ho pins s1 σ H1 x v Q I1 r1 q1)
/-- a op= e at a name: the name's slot i -/
theorem augR {op : Operator} {r : R2} (ho : OpR X (inplaceOp op) r) {pins : List (Addr × Obj)} {s : Shared} {σ : St} {H : Hp} {x y : V} {v u : Value} {Q : VK} (I : Inv X pins σ H s)
    (rx : RelV x v) (ry : RelV y u) (q : r x y H Q) : wpAny (model X.prog X.w) X.A (inplaceOp op v u) (EP X pins σ Q) X.xe s := ho pins s σ H x y v u Q I rx ry q

/-! ### ints -/
theorem opI {f : Value → Value → Sem Value} {C : Int → Int → Prop} {g : Int → Int → Int}
    (rule : ∀ (i j : Int) (t u : Tok) (s : Shared) (Q : Value → Shared → Prop) (E : Value → Shared → Prop), C i j → Q (.int (g i j) s.toks) { s with toks := s.toks + 1 } → wpAny (model X.prog X.w) X.A (f (.int i t) (.int j u)) Q E s) :
    OpR X f (rI C fun i j => .int (g i j)) := by
  intro pins s σ H x y v u Q I rx ry h
  obtain ⟨i, j, rfl, rfl, hc, q⟩ := h
  obtain ⟨t, rfl⟩ := rx
  obtain ⟨t', rfl⟩ := ry
  exact rule i j t t' s _ _ hc ⟨.int (g i j), H, I.tok _, ⟨_, rfl⟩, q⟩
theorem opI0 {f : Value → Value → Sem Value} {g : Int → Int → Int}
    (rule : ∀ (i j : Int) (t u : Tok) (s : Shared) (Q : Value → Shared → Prop) (E : Value → Shared → Prop), Q (.int (g i j) s.toks) { s with toks := s.toks + 1 } → wpAny (model X.prog X.w) X.A (f (.int i t) (.int j u)) Q E s) :
    OpR X f (rI0 fun i j => .int (g i j)) := by
  intro pins s σ H x y v u Q I rx ry h
  obtain ⟨i, j, rfl, rfl, q⟩ := h
  obtain ⟨t, rfl⟩ := rx
  obtain ⟨t', rfl⟩ := ry
  exact rule i j t t' s _ _ ⟨.int (g i j), H, I.tok _, ⟨_, rfl⟩, q⟩
theorem opB0 {f : Value → Value → Sem Value} {g : Int → Int → Bool}
    (rule : ∀ (i j : Int) (t u : Tok) (s : Shared) (Q : Value → Shared → Prop) (E : Value → Shared → Prop), Q (.bool (g i j)) s → wpAny (model X.prog X.w) X.A (f (.int i t) (.int j u)) Q E s) :
    OpR X f (rI0 fun i j => .bl (g i j)) := by
  intro pins s σ H x y v u Q I rx ry h
  obtain ⟨i, j, rfl, rfl, q⟩ := h
  obtain ⟨t, rfl⟩ := rx
  obtain ⟨t', rfl⟩ := ry
  exact rule i j t t' s _ _ ⟨.bl (g i j), H, I, rfl, q⟩

def CDiv (i j : Int) : Prop := 0 < j ∧ j < 1073741824
def CDivN (i j : Int) : Prop := j ≠ 0 ∧ j.natAbs < 1073741824
def CPow (i j : Int) : Prop := 0 ≤ j ∧ j ≤ 1000000 ∧ i.natAbs < 2 ^ 64
def CMul (i j : Int) : Prop := (-(2 ^ 64) < i ∧ i < 2 ^ 64) ∨ (-(2 ^ 64) < j ∧ j < 2 ^ 64)
theorem CMul.ok {i j : Int} (h : CMul i j) : IntMulOk i j := by
  rcases h with ⟨h1, h2⟩ | ⟨h1, h2⟩
  · exact .of_left (intBits_le_64 h1 h2)
  · exact .of_right (intBits_le_64 h1 h2)
theorem two_pow_nn (k : Nat) : (0 : Int) ≤ 2 ^ k := by
  rw [two_pow_cast]
  exact Int.natCast_nonneg _

theorem op_add : OpR X (binaryOp .Add) (rI0 fun i j => .int (i + j)) := opI0 fun _ _ _ _ _ _ _ q => add_int q
theorem op_sub : OpR X (binaryOp .Sub) (rI0 fun i j => .int (i - j)) := opI0 fun _ _ _ _ _ _ _ q => sub_int q
theorem op_mul : OpR X (binaryOp .Mult) (rI CMul fun i j => .int (i * j)) := opI fun _ _ _ _ _ _ _ hc q => mul_int q hc.ok
/-- // by a positive divisor -/
theorem op_fdiv : OpR X (binaryOp .FloorDiv) (rI CDiv fun i j => .int (i / j)) := opI fun i j _ _ _ _ _ hc q => by
  have h1 : (0 : Int) < j := hc.1
  have h2 : j < 1073741824 := hc.2
  exact floordiv_int (by omega) (by rw [Int.fdiv_eq_ediv_of_nonneg i (by omega)]; exact q) (.inl (PyProof.noPylong_small (by omega)))
theorem op_fdivN : OpR X (binaryOp .FloorDiv) (rI CDivN fun i j => .int (i.fdiv j)) := opI fun _ _ _ _ _ _ _ hc q => floordiv_int hc.1 q (.inl (PyProof.noPylong_small hc.2))
/-- % by a positive divisor of any size -/
theorem op_mod : OpR X (binaryOp .Mod) (rI (fun _ j => 0 < j) fun i j => .int (i % j)) := opI fun i j _ _ _ _ _ hc q => by
  have h1 : (0 : Int) < j := hc
  exact mod_int' (by omega) (by rw [Int.fmod_eq_emod_of_nonneg i (by omega)]; exact q)
theorem op_modN : OpR X (binaryOp .Mod) (rI (fun _ j => j ≠ 0) fun i j => .int (i.fmod j)) := opI fun _ _ _ _ _ _ _ hc q => mod_int' hc q
theorem op_pow : OpR X (binaryOp .Pow) (rI CPow fun i j => .int (i ^ j.toNat)) := opI fun _ _ _ _ _ _ _ hc q => pow_int_small hc.1 hc.2.1 hc.2.2 q
theorem op_shl : OpR X (binaryOp .LShift) (rI CPow fun i j => .int (i * 2 ^ j.toNat)) := opI fun _ _ _ _ _ _ _ hc q => lshift_int_small hc.1 hc.2.1 hc.2.2 q
theorem op_shr : OpR X (binaryOp .RShift) (rI (fun _ j => 0 ≤ j) fun i j => .int (i / 2 ^ j.toNat)) := opI fun i j _ _ _ _ _ hc q =>
  rshift_int hc (by rw [Int.fdiv_eq_ediv_of_nonneg i (two_pow_nn _)]; exact q)
theorem op_and : OpR X (binaryOp .BitAnd) (rI0 fun i j => .int (Builtin.bitAnd i j)) := opI0 fun _ _ _ _ _ _ _ q => and_int q
theorem op_or : OpR X (binaryOp .BitOr) (rI0 fun i j => .int (Builtin.bitOr i j)) := opI0 fun _ _ _ _ _ _ _ q => or_int q
theorem op_xor : OpR X (binaryOp .BitXor) (rI0 fun i j => .int (Builtin.bitXor i j)) := opI0 fun _ _ _ _ _ _ _ q => xor_int q

theorem iop_add : OpR X (inplaceOp .Add) (rI0 fun i j => .int (i + j)) := opI0 fun _ _ _ _ _ _ _ q => iadd_int q
theorem iop_sub : OpR X (inplaceOp .Sub) (rI0 fun i j => .int (i - j)) := opI0 fun _ _ _ _ _ _ _ q => isub_int q
theorem iop_mul : OpR X (inplaceOp .Mult) (rI CMul fun i j => .int (i * j)) := opI fun _ _ _ _ _ _ _ hc q => imul_int q hc.ok
theorem iop_fdiv : OpR X (inplaceOp .FloorDiv) (rI CDiv fun i j => .int (i / j)) := opI fun i j _ _ _ _ _ hc q => by
  have h1 : (0 : Int) < j := hc.1
  have h2 : j < 1073741824 := hc.2
  exact ifloordiv_int (by omega) (by rw [Int.fdiv_eq_ediv_of_nonneg i (by omega)]; exact q) (.inl (PyProof.noPylong_small (by omega)))
theorem iop_mod : OpR X (inplaceOp .Mod) (rI (fun _ j => 0 < j) fun i j => .int (i % j)) := opI fun i j _ _ _ _ _ hc q => by
  have h1 : (0 : Int) < j := hc
  exact imod_int (by omega) (by rw [Int.fmod_eq_emod_of_nonneg i (by omega)]; exact q)
theorem iop_shl : OpR X (inplaceOp .LShift) (rI CPow fun i j => .int (i * 2 ^ j.toNat)) := opI fun _ _ _ _ _ _ _ hc q => ilshift_int_small hc.1 hc.2.1 hc.2.2 q
theorem iop_shr : OpR X (inplaceOp .RShift) (rI (fun _ j => 0 ≤ j) fun i j => .int (i / 2 ^ j.toNat)) := opI fun i j _ _ _ _ _ hc q =>
  irshift_int hc (by rw [Int.fdiv_eq_ediv_of_nonneg i (two_pow_nn _)]; exact q)
theorem iop_and : OpR X (inplaceOp .BitAnd) (rI0 fun i j => .int (Builtin.bitAnd i j)) := opI0 fun _ _ _ _ _ _ _ q => iand_int q
theorem iop_or : OpR X (inplaceOp .BitOr) (rI0 fun i j => .int (Builtin.bitOr i j)) := opI0 fun _ _ _ _ _ _ _ q => ior_int q
theorem iop_xor : OpR X (inplaceOp .BitXor) (rI0 fun i j => .int (Builtin.bitXor i j)) := opI0 fun _ _ _ _ _ _ _ q => ixor_int q

theorem unI {f : Value → Sem Value} {g : Int → Int}
    (rule : ∀ (i : Int) (t : Tok) (s : Shared) (Q : Value → Shared → Prop) (E : Value → Shared → Prop), Q (.int (g i) s.toks) { s with toks := s.toks + 1 } → wpAny (model X.prog X.w) X.A (f (.int i t)) Q E s) :
    UnR X f (rU fun i => .int (g i)) := by
  intro pins s σ H x v Q I rx h
  obtain ⟨i, rfl, q⟩ := h
  obtain ⟨t, rfl⟩ := rx
  exact rule i t s _ _ ⟨.int (g i), H, I.tok _, ⟨_, rfl⟩, q⟩
theorem un_neg : UnR X (unaryOp .USub) (rU fun i => .int (-i)) := unI fun _ _ _ _ _ q => neg_int q
theorem un_inv : UnR X (unaryOp .Invert) (rU fun i => .int (Builtin.bitNot i)) := unI fun _ _ _ _ _ q => invert_int q

/-! ### bools among ints: n += (a < b) -/
theorem op_add_ib : OpR X (binaryOp .Add) (fun x y H Q => ∃ i k, x = .int i ∧ y = .bl k ∧ Q (.int (i + b2i k)) H) := by
  intro pins s σ H x y v u Q I rx ry h
  obtain ⟨i, k, rfl, rfl, q⟩ := h
  obtain ⟨t, rfl⟩ := rx
  cases ry
  exact add_int_bool ⟨.int (i + b2i k), H, I.tok _, ⟨_, rfl⟩, q⟩
end

/-! ### comparisons -/
/-- the scalars that == tells apart as data does -/
def scal : V → V → Bool
  | .non, .non => true | .non, .int _ => true | .int _, .non => true | .non, .bl _ => true | .bl _, .non => true | .non, .str _ => true | .str _, .non => true
  | .int _, .int _ => true | .bl _, .bl _ => true | .str _, .str _ => true | .byt _, .byt _ => true
  | .int _, .str _ => true | .str _, .int _ => true | .bl _, .str _ => true | .str _, .bl _ => true
  | _, _ => false
def rEq : R2 := fun x y H Q => scal x y = true ∧ Q (.bl (decide (x = y))) H
def rNe : R2 := fun x y H Q => scal x y = true ∧ Q (.bl (!decide (x = y))) H

theorem dec_int {i j : Int} : decide (V.int i = V.int j) = (i == j) := by
  rw [Bool.eq_iff_iff]
  simp
theorem dec_bl {i j : Bool} : decide (V.bl i = V.bl j) = (i == j) := by
  rw [Bool.eq_iff_iff]
  simp
theorem dec_str {i j : Str} : decide (V.str i = V.str j) = (i == j) := by
  rw [Bool.eq_iff_iff]
  simp
theorem dec_byt {i j : Array UInt8} : decide (V.byt i = V.byt j) = (i.toList == j.toList) := by
  rw [Bool.eq_iff_iff]
  cases i
  cases j
  simp

section
variable {X : Cx} {a b c : Expr} {ta tb tc : TE} {pos : Pos}
theorem fin_bl {pins : List (Addr × Obj)} {σ : St} {H : Hp} {s : Shared} {Q : VK} {k k' : Bool} (I : Inv X pins σ H s) (q : Q (.bl k) H) (e : k = k') : EP X pins σ Q (.bool k') s := by
  subst e
  exact ⟨.bl k, H, I, rfl, q⟩
theorem op_eq : OpR X (compareOp .Eq) rEq := by
  intro pins s σ H x y v u Q I rx ry h
  obtain ⟨hs, q⟩ := h
  cases x with
  | non =>
    cases rx
    cases y with
    | non => cases ry; exact PySem.EqNone.eq_none_none (fin_bl I q (by simp))
    | bl j => cases ry; exact PySem.EqNone.eq_none_bool (fin_bl I q (by simp))
    | int j => obtain ⟨t', rfl⟩ := ry; exact PySem.EqNone.eq_none_int (fin_bl I q (by simp))
    | str j => obtain ⟨t', rfl⟩ := ry; exact PySem.EqNone.eq_none_str (fin_bl I q (by simp))
    | _ => exact absurd (show false = true from hs) Bool.false_ne_true
  | bl i =>
    cases rx
    cases y with
    | non => cases ry; exact PySem.EqNone.eq_bool_none (fin_bl I q (by simp))
    | bl j => cases ry; exact eq_bool (fin_bl I q dec_bl)
    | str j => obtain ⟨t', rfl⟩ := ry; exact PySem.EqMixed.eq_bool_str (fin_bl I q (by simp))
    | _ => exact absurd (show false = true from hs) Bool.false_ne_true
  | int i =>
    obtain ⟨t, rfl⟩ := rx
    cases y with
    | non => cases ry; exact PySem.EqNone.eq_int_none (fin_bl I q (by simp))
    | int j => obtain ⟨t', rfl⟩ := ry; exact eq_int (fin_bl I q dec_int)
    | str j => obtain ⟨t', rfl⟩ := ry; exact PySem.EqMixed.eq_int_str (fin_bl I q (by simp))
    | _ => exact absurd (show false = true from hs) Bool.false_ne_true
  | str i =>
    obtain ⟨t, rfl⟩ := rx
    cases y with
    | non => cases ry; exact PySem.EqNone.eq_str_none (fin_bl I q (by simp))
    | bl j => cases ry; exact PySem.EqMixed.eq_str_bool (fin_bl I q (by simp))
    | int j => obtain ⟨t', rfl⟩ := ry; exact PySem.EqMixed.eq_str_int (fin_bl I q (by simp))
    | str j => obtain ⟨t', rfl⟩ := ry; exact eq_str (fin_bl I q dec_str)
    | _ => exact absurd (show false = true from hs) Bool.false_ne_true
  | byt i =>
    obtain ⟨t, rfl⟩ := rx
    cases y with
    | byt j => obtain ⟨t', rfl⟩ := ry; exact PySem.W.eq_bytes (fin_bl I q dec_byt)
    | _ => exact absurd (show false = true from hs) Bool.false_ne_true
  | _ => cases y <;> exact absurd (show false = true from hs) Bool.false_ne_true
theorem op_ne : OpR X (compareOp .NotEq) rNe := by
  intro pins s σ H x y v u Q I rx ry h
  obtain ⟨hs, q⟩ := h
  cases x with
  | non =>
    cases rx
    cases y with
    | non => cases ry; exact PySem.EqNone.ne_none_none (fin_bl I q (by simp))
    | bl j => cases ry; exact PySem.EqNone.ne_none_bool (fin_bl I q (by simp))
    | int j => obtain ⟨t', rfl⟩ := ry; exact PySem.EqNone.ne_none_int (fin_bl I q (by simp))
    | str j => obtain ⟨t', rfl⟩ := ry; exact PySem.EqNone.ne_none_str (fin_bl I q (by simp))
    | _ => exact absurd (show false = true from hs) Bool.false_ne_true
  | bl i =>
    cases rx
    cases y with
    | non => cases ry; exact PySem.EqNone.ne_bool_none (fin_bl I q (by simp))
    | bl j => cases ry; exact ne_bool (fin_bl I q (congrArg not dec_bl))
    | str j => obtain ⟨t', rfl⟩ := ry; exact PySem.EqMixed.ne_bool_str (fin_bl I q (by simp))
    | _ => exact absurd (show false = true from hs) Bool.false_ne_true
  | int i =>
    obtain ⟨t, rfl⟩ := rx
    cases y with
    | non => cases ry; exact PySem.EqNone.ne_int_none (fin_bl I q (by simp))
    | int j => obtain ⟨t', rfl⟩ := ry; exact ne_int (fin_bl I q (congrArg not dec_int))
    | str j => obtain ⟨t', rfl⟩ := ry; exact PySem.EqMixed.ne_int_str (fin_bl I q (by simp))
    | _ => exact absurd (show false = true from hs) Bool.false_ne_true
  | str i =>
    obtain ⟨t, rfl⟩ := rx
    cases y with
    | non => cases ry; exact PySem.EqNone.ne_str_none (fin_bl I q (by simp))
    | bl j => cases ry; exact PySem.EqMixed.ne_str_bool (fin_bl I q (by simp))
    | int j => obtain ⟨t', rfl⟩ := ry; exact PySem.EqMixed.ne_str_int (fin_bl I q (by simp))
    | str j => obtain ⟨t', rfl⟩ := ry; exact ne_str (fin_bl I q (congrArg not dec_str))
    | _ => exact absurd (show false = true from hs) Bool.false_ne_true
  | byt i =>
    obtain ⟨t, rfl⟩ := rx
    cases y with
    | byt j => obtain ⟨t', rfl⟩ := ry; exact PySem.W.ne_bytes (fin_bl I q (congrArg not dec_byt))
    | _ => exact absurd (show false = true from hs) Bool.false_ne_true
  | _ => cases y <;> exact absurd (show false = true from hs) Bool.false_ne_true

theorem op_lt : OpR X (compareOp .Lt) (rI0 fun i j => .bl (decide (i < j))) := opB0 fun _ _ _ _ _ _ _ q => lt_int q
theorem op_le : OpR X (compareOp .LtE) (rI0 fun i j => .bl (decide (i ≤ j))) := opB0 fun _ _ _ _ _ _ _ q => le_int q
theorem op_gt : OpR X (compareOp .Gt) (rI0 fun i j => .bl (decide (j < i))) := opB0 fun _ _ _ _ _ _ _ q => gt_int q
theorem op_ge : OpR X (compareOp .GtE) (rI0 fun i j => .bl (decide (j ≤ i))) := opB0 fun _ _ _ _ _ _ _ q => ge_int q
theorem op_lt_str : OpR X (compareOp .Lt) (fun x y H Q => ∃ i j, x = .str i ∧ y = .str j ∧ Q (.bl (decide (i.cps.toList < j.cps.toList))) H) := by
  intro pins s σ H x y v u Q I rx ry h
  obtain ⟨i, j, rfl, rfl, q⟩ := h
  obtain ⟨t, rfl⟩ := rx
  obtain ⟨t', rfl⟩ := ry
  exact lt_str (fin_bl I q rfl)
/-- the one string within the other -/
theorem op_in_str : OpR X (compareOp .In) (fun x y H Q => ∃ i j, x = .str i ∧ y = .str j ∧ Q (.bl (!(Builtin.Str.occurrences j i 0 j.length 1).isEmpty)) H) := by
  intro pins s σ H x y v u Q I rx ry h
  obtain ⟨i, j, rfl, rfl, q⟩ := h
  obtain ⟨t, rfl⟩ := rx
  obtain ⟨t', rfl⟩ := ry
  exact in_str (fin_bl I q rfl)

/-- is None, is not None: the right side a value none -/
theorem op_isN : OpR X (compareOp .Is) (fun x y H Q => y = .non ∧ Q (.bl (decide (x = .non))) H) := by
  intro pins s σ H x y v u Q I rx ry h
  obtain ⟨rfl, q⟩ := h
  cases ry
  refine is_none_gen (fin_bl I q ?_)
  cases x <;> first
    | (cases rx; rfl)
    | (obtain ⟨t, rfl⟩ := rx; rfl)
theorem op_notN : OpR X (compareOp .IsNot) (fun x y H Q => y = .non ∧ Q (.bl (!decide (x = .non))) H) := by
  intro pins s σ H x y v u Q I rx ry h
  obtain ⟨rfl, q⟩ := h
  cases ry
  refine isnot_none_gen (fin_bl I q ?_)
  cases x <;> first
    | (cases rx; rfl)
    | (obtain ⟨t, rfl⟩ := rx; rfl)

theorem op_notin_str : OpR X (compareOp .NotIn) (fun x y H Q => ∃ i j, x = .str i ∧ y = .str j ∧ Q (.bl (!(!(Builtin.Str.occurrences j i 0 j.length 1).isEmpty))) H) := by
  intro pins s σ H x y v u Q I rx ry h
  obtain ⟨i, j, rfl, rfl, q⟩ := h
  obtain ⟨t, rfl⟩ := rx
  obtain ⟨t', rfl⟩ := ry
  exact notIn_str (fin_bl I q rfl)
/-- is, is not of two objects that are tracked lists or instances -/
def isObj : HO → Bool
  | .lst _ => true
  | .ins _ _ _ => true
  | _ => false
theorem obj_there {pins : List (Addr × Obj)} {s : Shared} {σ : St} {H : Hp} {a : Addr} {o : HO} (I : Inv X pins σ H s) (h : H a = some o) (p : isObj o = true) : ∃ ob, s.heap.get? a = some ob ∧ ob.cls ≠ .type "tuple" := by
  cases o with
  | lst xs =>
    obtain ⟨_, its, n, _, e⟩ : xs.length ≤ sizeLine ∧ ∃ (its : List Value) (n : Nat), Vals xs its ∧ s.heap.get? a = some { cls := .type "list", data := .seq its.toArray n } := I.hok a _ h
    exact ⟨_, e, (by show Value.type "list" ≠ .type "tuple"; decide +kernel)⟩
  | ins C dx fs =>
    have x := I.hok a _ h
    obtain ⟨_, _, _, e, _⟩ := x
    exact ⟨_, e, (by show Value.ref C ≠ .type "tuple"; exact fun z => by cases z)⟩
  | _ => exact absurd (show false = true from p) Bool.false_ne_true
theorem op_is_ref : OpR X (compareOp .Is) (fun x y H Q => ∃ a b oa ob, x = .ref a ∧ y = .ref b ∧ H a = some oa ∧ isObj oa = true ∧ H b = some ob ∧ isObj ob = true ∧ Q (.bl (decide (a = b))) H) := by
  intro pins s σ H x y v u Q I rx ry h
  obtain ⟨a, b, oa, ob, rfl, rfl, ha, pa, hb, pb, q⟩ := h
  cases rx
  cases ry
  obtain ⟨o1, e1, n1⟩ := obj_there I ha pa
  obtain ⟨o2, e2, _⟩ := obj_there I hb pb
  by_cases z : a = b
  · subst z
    exact wpAny_is_ref_self (fin_bl I q (by simp))
  · exact wpAny_is_ref_other z e1 e2 n1 (fin_bl I q (by simp [z]))
theorem op_isnot_ref : OpR X (compareOp .IsNot) (fun x y H Q => ∃ a b oa ob, x = .ref a ∧ y = .ref b ∧ H a = some oa ∧ isObj oa = true ∧ H b = some ob ∧ isObj ob = true ∧ Q (.bl (!decide (a = b))) H) := by
  intro pins s σ H x y v u Q I rx ry h
  obtain ⟨a, b, oa, ob, rfl, rfl, ha, pa, hb, pb, q⟩ := h
  cases rx
  cases ry
  obtain ⟨o1, e1, n1⟩ := obj_there I ha pa
  obtain ⟨o2, e2, _⟩ := obj_there I hb pb
  by_cases z : a = b
  · subst z
    exact wpAny_isNot_ref_self (fin_bl I q (by simp))
  · exact wpAny_isNot_ref_other z e1 e2 n1 (fin_bl I q (by simp [z]))

/-- two rules for one operation: by cases -/
theorem OpR.or {f : Value → Value → Sem Value} {r r' : R2} (h : OpR X f r) (h' : OpR X f r') : OpR X f (fun x y H Q => r x y H Q ∨ r' x y H Q) := by
  intro pins s σ H x y v u Q I rx ry q
  rcases q with q | q
  · exact h pins s σ H x y v u Q I rx ry q
  · exact h' pins s σ H x y v u Q I rx ry q

theorem nomark (b : Expr) {op : CmpOp} (h : op ≠ .In := by decide) (h2 : op ≠ .NotIn := by decide) : behindInMarks op b = false := by
  have e1 : (op == CmpOp.In) = false := by cases op <;> first | rfl | exact absurd rfl h
  have e2 : (op == CmpOp.NotIn) = false := by cases op <;> first | rfl | exact absurd rfl h2
  cases b <;> simp [behindInMarks, e1, e2]
/-- a comparison as a value; hm: nomark b, or (for in, not in) by with_unfolding_all rfl -/
theorem pe_cmpR {op : CmpOp} {r : R2} (ho : OpR X (compareOp op) r) (ha : PE X a ta) (hb : PE X b tb) (hm : behindInMarks op b = false) : PE X (.Compare a [op] [b] pos) (tOp r ta tb) := by
  intro pins s σ H Q I h
  exact wpAny_Compare1 (binT ha hb I h fun v u s2 x y H2 I2 rx ry q => ho pins s2 σ H2 x y v u Q I2 rx ry q) hm
/-- a reading of a value as a test -/
def tTest (t : TE) : TT := fun σ H Q => t σ H fun x H' => ∃ k, x = .bl k ∧ Q k H'
theorem pt_cmpR {op : CmpOp} {r : R2} (ho : OpR X (compareOp op) r) (ha : PE X a ta) (hb : PE X b tb) (hm : behindInMarks op b = false) : PT X (.Compare a [op] [b] pos) (tTest (tOp r ta tb)) := by
  intro pins s σ H Q I h
  refine wpAny_isTrue_Compare1 (thn (ha pins s σ H _ I h) fun v s1 ⟨x, H1, I1, r1, q1⟩ => thn (hb pins s1 σ H1 _ I1 q1) fun u s2 ⟨y, H2, I2, r2, q2⟩ =>
    thn (ho pins s2 σ H2 x y v u _ I2 r1 r2 q2) fun c s3 ⟨z, H3, I3, r3, k, e, q3⟩ => ?_) hm
  subst e
  cases r3
  exact wpAny_truthy_bool ⟨H3, I3, q3⟩
/-- a op1 b op2 c -/
def tChain (r r' : R2) (ta tb tc : TE) : TE := fun σ H Q => ta σ H fun x H1 => tb σ H1 fun y H2 => r x y H2 fun z H3 => ∃ k, z = .bl k ∧
  (if k = true then tc σ H3 fun w' H4 => r' y w' H4 Q else Q (.bl false) H3)
theorem pe_chain {op op' : CmpOp} {r r' : R2} (ho : OpR X (compareOp op) r) (ho' : OpR X (compareOp op') r') (ha : PE X a ta) (hb : PE X b tb) (hc : PE X c tc)
    (hm : lastMarks [op, op'] [b, c] = false := by with_unfolding_all rfl) : PE X (.Compare a [op, op'] [b, c] pos) (tChain r r' ta tb tc) := by
  intro pins s σ H Q I h
  refine Compare_chain (thn (ha pins s σ H _ I h) fun v s1 ⟨x, H1, I1, r1, q1⟩ => chain_link (thn (hb pins s1 σ H1 _ I1 q1) fun u s2 ⟨y, H2, I2, r2, q2⟩ =>
    thn (ho pins s2 σ H2 x y v u _ I2 r1 r2 q2) fun d s3 ⟨z, H3, I3, r3, k, e, q3⟩ => ?_)) hm
  subst e
  cases r3
  refine wpAny_truthy_bool ?_
  cases k with
  | false => exact ite_ff ⟨.bl false, H3, I3, rfl, q3⟩
  | true => exact ite_tt (chain_last (thn (hc pins s3 σ H3 _ I3 q3) fun w' s4 ⟨z', H4, I4, r4, q4⟩ => ho' pins s4 σ H4 y z' u w' Q I4 r2 r4 q4))
theorem pt_chain {op op' : CmpOp} {r r' : R2} (ho : OpR X (compareOp op) r) (ho' : OpR X (compareOp op') r') (ha : PE X a ta) (hb : PE X b tb) (hc : PE X c tc)
    (hm : lastMarks [op, op'] [b, c] = false := by with_unfolding_all rfl) : PT X (.Compare a [op, op'] [b, c] pos) (tTest (tChain r r' ta tb tc)) := by
  intro pins s σ H Q I h
  refine isTrue_chain (thn (ha pins s σ H _ I h) fun v s1 ⟨x, H1, I1, r1, q1⟩ => test_link (thn (hb pins s1 σ H1 _ I1 q1) fun u s2 ⟨y, H2, I2, r2, q2⟩ =>
    thn (ho pins s2 σ H2 x y v u _ I2 r1 r2 q2) fun d s3 ⟨z, H3, I3, r3, k, e, q3⟩ => ?_)) hm
  subst e
  cases r3
  refine wpAny_truthy_bool ?_
  cases k with
  | false =>
    obtain ⟨k', e', q'⟩ := q3
    cases e'
    exact ite_ff ⟨H3, I3, q'⟩
  | true =>
    refine ite_tt (test_last (thn (hc pins s3 σ H3 _ I3 q3) fun w' s4 ⟨z', H4, I4, r4, q4⟩ => thn (ho' pins s4 σ H4 y z' u w' _ I4 r2 r4 q4) fun d' s5 ⟨z2, H5, I5, r5, k2, e2, q5⟩ => ?_))
    subst e2
    cases r5
    exact wpAny_truthy_bool ⟨H5, I5, q5⟩

/-! ### truth -/
/-- a value's truth by the abstract heap -/
def TruV (K : PySem.W.Frag) (x : V) (H : Hp) (k : Bool) : Prop :=
  match x with
  | .non => k = false
  | .bl b => k = b
  | .int i => k = (i != 0)
  | .str y => y.length ≤ sizeLine ∧ k = ((y.length : Int) != 0)
  | .byt y => y.size ≤ sizeLine ∧ k = ((y.size : Int) != 0)
  | .ref p => (∃ xs, SqL K H p xs ∧ k = !xs.isEmpty) ∨ (∃ xs, SqT K H p xs ∧ k = !xs.isEmpty) ∨ ∃ kvs, H p = some (.dK kvs) ∧ k = !kvs.isEmpty
  | _ => False
theorem isEmpty_kv {κ : Type} {kvs : List (κ × V)} {vs : List (κ × Value)} (r : KV kvs vs) : (!vs.isEmpty) = !kvs.isEmpty := by
  cases r <;> rfl
theorem isEmpty_of {xs : List V} {its : List Value} (r : Vals xs its) : (!its.toArray.isEmpty) = !xs.isEmpty := by
  cases r <;> simp
theorem line63 : (sizeLine : Nat) < 2 ^ 63 := by rw [sizeLine_eq]; decide
theorem tru_ok : TruR X (fun x H Q => ∃ k, TruV X.K x H k ∧ Q k H) := by
  intro pins s σ H x v Q I rx h
  obtain ⟨k, e, q⟩ := h
  have hl := line63
  have hs : sizeLine = 16777216 := sizeLine_eq
  cases x with
  | non =>
    cases rx
    have e' : k = false := e
    subst e'
    exact truthy_none ⟨H, I, q⟩
  | bl b =>
    cases rx
    have e' : k = b := e
    subst e'
    exact wpAny_truthy_bool ⟨H, I, q⟩
  | int i =>
    obtain ⟨t, rfl⟩ := rx
    have e' : k = (i != 0) := e
    subst e'
    exact PySem.P.truthy_int ⟨H, I, q⟩
  | str y =>
    obtain ⟨t, rfl⟩ := rx
    obtain ⟨hy, e'⟩ : y.length ≤ sizeLine ∧ k = ((y.length : Int) != 0) := e
    subst e'
    exact PySem.P.truthy_str (by omega) ⟨H, I.tok _, q⟩
  | byt y =>
    obtain ⟨t, rfl⟩ := rx
    obtain ⟨hy, e'⟩ : y.size ≤ sizeLine ∧ k = ((y.size : Int) != 0) := e
    subst e'
    exact PySem.W.truthy_bytes (by omega) ⟨H, I.tok _, q⟩
  | ref p =>
    cases rx
    have e' : (∃ xs, SqL X.K H p xs ∧ k = !xs.isEmpty) ∨ (∃ xs, SqT X.K H p xs ∧ k = !xs.isEmpty) ∨ ∃ kvs, H p = some (.dK kvs) ∧ k = !kvs.isEmpty := e
    rcases e' with ⟨xs, hx, e'⟩ | ⟨xs, hx, e'⟩ | ⟨kvs, hx, e'⟩
    · subst e'
      obtain ⟨its, r, pl, hz⟩ := I.list hx
      have hlen := r.length
      exact wpAny_truthy_list pl.isList (by simp only [List.size_toArray]; omega) ⟨H, I.tok _, by rw [isEmpty_of r]; exact q⟩
    · subst e'
      obtain ⟨its, r, pl, hz⟩ := I.tuple hx
      have hlen := r.length
      exact truthy_tuple pl (by simp only [List.size_toArray]; omega) ⟨H, I.tok _, by rw [isEmpty_of r]; exact q⟩
    · subst e'
      obtain ⟨hz, hS, vs, r, m⟩ : kvs.length ≤ sizeLine ∧ (p == sysModules) = false ∧ ∃ vs, KV kvs vs ∧ s.heap.DictOf (mixKind X.prog X.w) p vs := I.hok p _ hx
      have hlen : kvs.length = vs.length := Paired.length r
      exact wpAny_truthy_dict hS m (by omega) ⟨H, I.tok _, by rw [isEmpty_kv r]; exact q⟩
  | _ => exact (show False from e).elim
/-- any expression whose test is its value's truth (a name, a call, a subscript, a field ..: he by fun _ => rfl) -/
theorem pt_truth (ha : PE X a ta) (he : ∀ whole, isTrue a X.env whole = (do let v ← whole; standAt a.pos; holding [v] (truthy v))) :
    PT X a (fun σ H Q => ta σ H fun x H' => ∃ k, TruV X.K x H' k ∧ Q k H') := by
  intro pins s σ H Q I h
  exact isTrue_plain (thn (ha pins s σ H _ I h) fun v s1 ⟨x, H1, I1, r1, q1⟩ => tru_ok pins s1 σ H1 x v Q I1 r1 q1) (he _)

/-! ### strs and bytes -/
theorem pe_byt {x : List UInt8} {k : Nat} : PE X (.Constant (.bytes x) k pos) (fun _ H Q => Q (.byt x.toArray) H) := fun _ _ _ H _ I h => PySem.W.Constant_bytes ⟨.byt x.toArray, H, I.tok _, ⟨_, rfl⟩, h⟩
theorem op_add_str : OpR X (binaryOp .Add) (fun x y H Q => ∃ i j, x = .str i ∧ y = .str j ∧ i.length + j.length ≤ sizeLine ∧ Q (.str (i ++ j)) H) := by
  intro pins s σ H x y v u Q I rx ry h
  obtain ⟨i, j, rfl, rfl, hz, q⟩ := h
  obtain ⟨t, rfl⟩ := rx
  obtain ⟨t', rfl⟩ := ry
  exact add_str (fun t' tk => ⟨.str (i ++ j), H, I.tok _, ⟨_, rfl⟩, q⟩) hz
theorem iop_add_str : OpR X (inplaceOp .Add) (fun x y H Q => ∃ i j, x = .str i ∧ y = .str j ∧ i.length + j.length ≤ sizeLine ∧ Q (.str (i ++ j)) H) := by
  intro pins s σ H x y v u Q I rx ry h
  obtain ⟨i, j, rfl, rfl, hz, q⟩ := h
  obtain ⟨t, rfl⟩ := rx
  obtain ⟨t', rfl⟩ := ry
  exact iadd_str (fun t' tk => ⟨.str (i ++ j), H, I.tok _, ⟨_, rfl⟩, q⟩) hz
theorem op_add_byt : OpR X (binaryOp .Add) (fun x y H Q => ∃ i j, x = .byt i ∧ y = .byt j ∧ i.size + j.size ≤ 16777216 ∧ Q (.byt (i ++ j)) H) := by
  intro pins s σ H x y v u Q I rx ry h
  obtain ⟨i, j, rfl, rfl, hz, q⟩ := h
  obtain ⟨t, rfl⟩ := rx
  obtain ⟨t', rfl⟩ := ry
  exact PySem.W.KBy.add_bytes hz (fun t' tk => ⟨.byt (i ++ j), H, I.tok _, ⟨_, rfl⟩, q⟩)

def PlainIxT (b : Expr) : Prop := ∀ o i, subscripted b false o i = operate [o, i] (getItem o i)
/-- s[i], 0 ≤ i < len -/
theorem pe_item_str (ha : PE X a ta) (hb : PE X b tb) (hs : PlainIxT b) :
    PE X (.Subscript a b pos) (tOp (fun x y H Q => ∃ z i c, x = .str z ∧ y = .int i ∧ 0 ≤ i ∧ i < 2 ^ 63 ∧ i < z.length ∧ z.cps[i.toNat]? = some c ∧ Q (.str ⟨#[c]⟩) H) ta tb) := by
  intro pins s σ H Q I h
  refine Subscript_ (binT ha hb I h fun v u s2 x y H2 I2 rx ry q => ?_)
  obtain ⟨z, i, c, rfl, rfl, h0, h63, h1, hc, q⟩ := q
  obtain ⟨t, rfl⟩ := rx
  obtain ⟨t', rfl⟩ := ry
  have e : seqIndex? i z.length = some i.toNat := PySem.StrLaws.seqIndex_nonneg h0 h1
  exact tail_any (typeIs_str s2 z t) slot_str_getitem.lookup (getItem_str (c := c) (by
    have e1 : decide (i < -(2 ^ 63 : Int)) = false := decide_eq_false (by omega)
    have e2 : decide (i ≥ 2 ^ 63) = false := decide_eq_false (by omega)
    rw [e1, e2] <;> rfl) (by rw [e]; exact hc) ⟨.str ⟨#[c]⟩, H2, I2.tok _, ⟨_, rfl⟩, q⟩) (hs _ _)
/-- b[i], 0 ≤ i < len -/
theorem pe_item_byt (ha : PE X a ta) (hb : PE X b tb) (hs : PlainIxT b) :
    PE X (.Subscript a b pos) (tOp (fun x y H Q => ∃ (z : List UInt8) (i : Int), x = .byt z.toArray ∧ y = .int i ∧ z.length ≤ sizeLine ∧ 0 ≤ i ∧ i < z.length ∧ Q (.int ((z.getD i.toNat 0).toNat : Nat)) H) ta tb) := by
  intro pins s σ H Q I h
  refine Subscript_ (binT ha hb I h fun v u s2 x y H2 I2 rx ry q => ?_)
  obtain ⟨z, i, rfl, rfl, hz, h0, h1, q⟩ := q
  obtain ⟨t, rfl⟩ := rx
  obtain ⟨t', rfl⟩ := ry
  have hl : sizeLine = 16777216 := sizeLine_eq
  exact tail_any (PySem.W.typeIs_bytes s2 z.toArray t) PySem.W.FB.slot_bytes_getitem.lookup (PySem.W.getItem_bytes (by omega) h0 h1 ⟨.int ((z.getD i.toNat 0).toNat : Nat), H2, I2.tok _, ⟨_, rfl⟩, q⟩) (hs _ _)

/-! ### scalar builtins, by CallR -/
theorem vals1 {x : V} {us : List Value} (r : Vals [x] us) : ∃ u, us = [u] ∧ RelV x u := by
  cases r with
  | cons r1 r2 => cases r2; exact ⟨_, rfl, r1⟩
theorem vals2 {x y : V} {us : List Value} (r : Vals [x, y] us) : ∃ u w', us = [u, w'] ∧ RelV x u ∧ RelV y w' := by
  cases r with
  | cons r1 r2 =>
    cases r2 with
    | cons r3 r4 => cases r4; exact ⟨_, _, rfl, r1, r3⟩
theorem call_abs : CallR X (.builtin "abs") (fun xs H Q => ∃ i, xs = [.int i] ∧ Q (.int (if i < 0 then -i else i)) H) := by
  intro pins s σ H xs us Q I r h
  obtain ⟨i, rfl, q⟩ := h
  obtain ⟨u, rfl, t, rfl⟩ := vals1 r
  exact call_abs_int fun u tk => ⟨.int (if i < 0 then -i else i), H, I.tok _, ⟨_, rfl⟩, q⟩
theorem call_max2 (hc : X.calm = true) : CallR X (.builtin "max") (fun xs H Q => ∃ i j, xs = [.int i, .int j] ∧ Q (.int (if j > i then j else i)) H) := by
  intro pins s σ H xs us Q I r h
  obtain ⟨i, j, rfl, q⟩ := h
  obtain ⟨u, w', rfl, ⟨t, rfl⟩, ⟨t', rfl⟩⟩ := vals2 r
  refine max_two_ints (I.ok.hd hc) fun h' tk k => ⟨_, H, I.kept k, ?_, q⟩
  by_cases hj : j > i
  · rw [if_pos hj, if_pos hj]; exact ⟨_, rfl⟩
  · rw [if_neg hj, if_neg hj]; exact ⟨_, rfl⟩
theorem call_min2 (hc : X.calm = true) : CallR X (.builtin "min") (fun xs H Q => ∃ i j, xs = [.int i, .int j] ∧ Q (.int (if j < i then j else i)) H) := by
  intro pins s σ H xs us Q I r h
  obtain ⟨i, j, rfl, q⟩ := h
  obtain ⟨u, w', rfl, ⟨t, rfl⟩, ⟨t', rfl⟩⟩ := vals2 r
  refine min_two_ints (I.ok.hd hc) fun h' tk k => ⟨_, H, I.kept k, ?_, q⟩
  by_cases hj : j < i
  · rw [if_pos hj, if_pos hj]; exact ⟨_, rfl⟩
  · rw [if_neg hj, if_neg hj]; exact ⟨_, rfl⟩
theorem call_int1 : CallR X (.type "int") (fun xs H Q => (∃ i, xs = [.int i] ∧ Q (.int i) H) ∨ ∃ k, xs = [.bl k] ∧ Q (.int (if k then 1 else 0)) H) := by
  intro pins s σ H xs us Q I r h
  rcases h with ⟨i, rfl, q⟩ | ⟨k, rfl, q⟩
  · obtain ⟨u, rfl, t, rfl⟩ := vals1 r
    exact call_int_int ⟨.int i, H, I, ⟨_, rfl⟩, q⟩
  · obtain ⟨u, rfl, r1⟩ := vals1 r
    cases r1
    exact call_int_bool ⟨.int (if k then 1 else 0), H, I.tok _, ⟨_, rfl⟩, q⟩
theorem call_bool1 : CallR X (.type "bool") (fun xs H Q => (∃ i, xs = [.int i] ∧ Q (.bl (i != 0)) H) ∨ ∃ k, xs = [.bl k] ∧ Q (.bl k) H) := by
  intro pins s σ H xs us Q I r h
  rcases h with ⟨i, rfl, q⟩ | ⟨k, rfl, q⟩
  · obtain ⟨u, rfl, t, rfl⟩ := vals1 r
    exact call_bool_int ⟨.bl (i != 0), H, I, rfl, q⟩
  · obtain ⟨u, rfl, r1⟩ := vals1 r
    cases r1
    exact call_bool_bool ⟨.bl k, H, I, rfl, q⟩
theorem call_str_int : CallR X (.type "str") (fun xs H Q => ∃ i, xs = [.int i] ∧ i.natAbs.log2 < 1920 ∧ Q (.str (toString i)) H) := by
  intro pins s σ H xs us Q I r h
  obtain ⟨i, rfl, hz, q⟩ := h
  obtain ⟨u, rfl, t, rfl⟩ := vals1 r
  exact PySem.P.str_of_int hz ⟨.str _, H, I.tok _, ⟨_, rfl⟩, q⟩
theorem call_ord : CallR X (.builtin "ord") (fun xs H Q => ∃ x, xs = [.str x] ∧ x.length = 1 ∧ Q (.int (x.cps.getD 0 0 : Nat)) H) := by
  intro pins s σ H xs us Q I r h
  obtain ⟨x, rfl, hz, q⟩ := h
  obtain ⟨u, rfl, t, rfl⟩ := vals1 r
  exact ord_of_one hz ⟨.int _, H, I.tok _, ⟨_, rfl⟩, q⟩
theorem call_chr : CallR X (.builtin "chr") (fun xs H Q => ∃ i, xs = [.int i] ∧ 0 ≤ i ∧ i ≤ 1114111 ∧ Q (.str ⟨#[i.toNat]⟩) H) := by
  intro pins s σ H xs us Q I r h
  obtain ⟨i, rfl, h0, h1, q⟩ := h
  obtain ⟨u, rfl, t, rfl⟩ := vals1 r
  exact chr_of_range h0 h1 ⟨.str _, H, I.tok _, ⟨_, rfl⟩, q⟩
/-- len of a str, a bytes, a list, a tuple -/
def LenV (K : PySem.W.Frag) (x : V) (H : Hp) (n : Nat) : Prop :=
  match x with
  | .str y => y.length ≤ sizeLine ∧ n = y.length
  | .byt y => y.size ≤ sizeLine ∧ n = y.size
  | .ref p => (∃ xs, SqL K H p xs ∧ n = xs.length) ∨ ∃ xs, SqT K H p xs ∧ n = xs.length
  | _ => False
theorem call_len : CallR X (.builtin "len") (fun xs H Q => ∃ x n, xs = [x] ∧ LenV X.K x H n ∧ Q (.int n) H) := by
  intro pins s σ H xs us Q I r h
  obtain ⟨x, n, rfl, e, q⟩ := h
  obtain ⟨u, rfl, rx⟩ := vals1 r
  have hl := line63
  have hs : sizeLine = 16777216 := sizeLine_eq
  cases x with
  | str y =>
    obtain ⟨t, rfl⟩ := rx
    obtain ⟨hy, e'⟩ : y.length ≤ sizeLine ∧ n = y.length := e
    subst e'
    exact len_str (by omega) ⟨.int _, H, I.tok _, ⟨_, rfl⟩, q⟩
  | byt y =>
    obtain ⟨t, rfl⟩ := rx
    obtain ⟨hy, e'⟩ : y.size ≤ sizeLine ∧ n = y.size := e
    subst e'
    exact PySem.W.len_bytes (by omega) ⟨.int _, H, I.tok _, ⟨_, rfl⟩, q⟩
  | ref p =>
    cases rx
    have e' : (∃ xs, SqL X.K H p xs ∧ n = xs.length) ∨ ∃ xs, SqT X.K H p xs ∧ n = xs.length := e
    rcases e' with ⟨xs, hx, e'⟩ | ⟨xs, hx, e'⟩
    · subst e'
      obtain ⟨its, r', pl, hz⟩ := I.list hx
      have hlen := r'.length
      exact Calls.call_len_list pl.isList (by simp only [List.size_toArray]; omega) ⟨.int xs.length, H, I.tok _, ⟨_, by simp only [List.size_toArray]; rw [hlen]⟩, q⟩
    · subst e'
      obtain ⟨its, r', pl, hz⟩ := I.tuple hx
      have hlen := r'.length
      exact len_tuple pl (by simp only [List.size_toArray]; omega) ⟨.int xs.length, H, I.tok _, ⟨_, by simp only [List.size_toArray]; rw [hlen]⟩, q⟩
  | _ => exact (show False from e).elim
/-- divmod: a new tuple -/
theorem call_divmod : CallR X (.builtin "divmod") (fun xs H Q => ∃ i j, xs = [.int i, .int j] ∧ CDiv i j ∧ ∀ p, H p = none → Q (.ref p) (upd H p (.tup [.int (i / j), .int (i % j)]))) := by
  intro pins s σ H xs us Q I r h
  obtain ⟨i, j, rfl, ⟨h1, h2⟩, q⟩ := h
  obtain ⟨u, w', rfl, ⟨t, rfl⟩, ⟨t', rfl⟩⟩ := vals2 r
  refine divmod_int (by omega) ?_ (.inl (PyProof.noPylong_small (by omega)))
  rw [Int.fdiv_eq_ediv_of_nonneg i (by omega), Int.fmod_eq_emod_of_nonneg i (by omega)]
  have hn : H s.heap.objs.size = none := I.hok.fresh (Nat.le_refl _)
  refine ⟨.ref s.heap.objs.size, _, ?_, rfl, q _ hn⟩
  refine I.laid (fun b o e => Heap.get?_push_of_some _ e) (Nat.le_refl _) ⟨by simp only [List.length_cons, List.length_nil]; rw [sizeLine_eq]; decide, [.int (i / j) s.toks, .int (i % j) (s.toks + 1)], .cons ⟨_, rfl⟩ (.cons ⟨_, rfl⟩ .nil), ?_⟩
  exact ⟨_, Heap.get?_push_size s.heap rfl, rfl, 0, rfl⟩
end
end L2

namespace L2
open PySem PySem.Spec PyProof.Rows

/-! ### an instance, its attributes a map -/
structure ObjM (h : Heap) (x dx C : Addr) (mA : Str → Option Value) : Prop where
  obj : h.get? x = some (PySem.W.instObj C dx)
  ns : h.Ns1 dx mA
  ne : dx ≠ x

theorem lookIn_ns {h : Heap} {dx : Addr} {mA : Str → Option Value} (n : h.Ns1 dx mA) : ∃ od, h.get? dx = some od ∧ ∀ name, PySem.W.lookIn name od = some (mA name) := by
  obtain ⟨o, es, ep, ho, hd, hk, _, hm⟩ := n
  refine ⟨o, ho, fun name => ?_⟩
  have e := hm name
  unfold nsFind findBy at e
  rw [← Array.find?_toList] at e
  unfold PySem.W.lookIn
  rw [hd]
  dsimp only
  split
  · rename_i y q
    rw [q] at e
    exact congrArg some e
  · rename_i q
    rw [q] at e
    have a : es.toList.any (·.refKey) = false := by
      rw [List.any_eq_false]
      intro y hy
      obtain ⟨z, t, hkey⟩ := hk y (Array.mem_toList_iff.mp hy)
      simp [DictEntry.refKey, hkey]
    have a' : ¬ es.toList.any (·.refKey) = true := by rw [a]; exact Bool.false_ne_true
    rw [if_neg a']
    exact congrArg some e

theorem ObjM.look {h : Heap} {x dx C : Addr} {mA : Str → Option Value} (I : ObjM h x dx C mA) : ∃ od, PySem.W.InstAt h x (PySem.W.instObj C dx) C (some od) ∧ ∀ name, PySem.W.lookIn name od = some (mA name) :=
  let ⟨od, ho, hl⟩ := lookIn_ns I.ns
  ⟨od, ⟨I.obj, rfl, rfl, ho⟩, hl⟩

section
variable {prog : Program} {w : World} {A : Around} {E : Value → Shared → Prop} {s : Shared} {K : PySem.W.Frag} {x dx C f : Addr} {mA : Str → Option Value} {name : Str} {v : Value}

theorem get_map {expr : Bool} {Q : Value → Shared → Prop} (X : K.In s.heap) (I : ObjM s.heap x dx C mA) (hg : PySem.W.plainGet K C name = true) (hh : PySem.W.hasDictIn K C = true)
    (ha : PySem.W.findIn K (.ref C) name = some none) (hv : mA name = some v) (hv' : PySem.W.handedIn v = true) (h : Q v { s with toks := s.toks + 1 }) :
    wpAny (model prog w) A (getAttr (.ref x) name expr) Q E s := by
  obtain ⟨od, J, hl⟩ := I.look
  exact PySem.W.get_value X J (PySem.W.plainGet_of hg).1 (PySem.W.findObj_own hh ha rfl (by rw [hl, hv])) hv' h

theorem get_const {expr : Bool} {a : Value} {Q : Value → Shared → Prop} (X : K.In s.heap) (I : ObjM s.heap x dx C mA) (hg : PySem.W.plainGet K C name = true) (hh : PySem.W.hasDictIn K C = true)
    (ha : PySem.W.findIn K (.ref C) name = some (some a)) (hn : PySem.W.specialIn K a "__get__" = some none) (hc : PySem.W.copiedNames.contains name = false) (hv : mA name = none) (hv' : PySem.W.handedIn a = true)
    (h : Q a { s with toks := s.toks + 1 }) : wpAny (model prog w) A (getAttr (.ref x) name expr) Q E s := by
  obtain ⟨od, J, hl⟩ := I.look
  exact PySem.W.get_value X J (PySem.W.plainGet_of hg).1 (PySem.W.findObj_cls hh ha hn hv' hc (by rw [hl, hv])) hv' h

theorem get_meth {pl : Sem Bool} {Q : Value × List Value → Shared → Prop} (X : K.In s.heap) (I : ObjM s.heap x dx C mA) (hg : PySem.W.plainGet K C name = true)
    (hf : PySem.W.findIn K (.ref C) name = some (some (.ref f))) (ht : PySem.W.isFn K (.ref f) = true) (hv : mA name = none) (h : Q (.ref f, [.ref x]) s) :
    wpAny (model prog w) A (getMethod (.ref x) name pl) Q E s := by
  obtain ⟨od, J, hl⟩ := I.look
  exact PySem.W.method_fn X J (PySem.W.plainGet_of hg).1 (PySem.W.plainGet_of hg).2 hf (beq_iff_eq.mp ht) (by show (PySem.W.lookIn name od).map (·.isSome) = some false; rw [hl, hv]; rfl) h

theorem set_map {ns : List Str} {Q : Unit → Shared → Prop} (X : K.In s.heap) (I : ObjM s.heap x dx C mA)
    (hs : PySem.W.findIn K (.ref C) "__setattr__" = some (some (.builtin "object.__setattr__"))) (hp : PySem.W.plainOver K C = true) (ht : PySem.W.takerIn K C name = some none) (hh : PySem.W.hasDictIn K C = true)
    (hw : PySem.Within mA ns) (hsz : ns.length ≤ sizeLine)
    (h : ∀ h', ObjM h' x dx C (fun y => if y = name then some v else mA y) → Heap.SameBut dx s.heap h' → Q () { s with heap := h', toks := s.toks + 2 }) :
    wpAny (model prog w) A (setAttr (.ref x) name v) Q E s := by
  obtain ⟨od, J, hl⟩ := I.look
  refine PySem.W.set_plain X J hs (PySem.W.osa_open (s := { s with toks := s.toks + 1 }) (r := none) X J hp ht fun b => ?_)
  obtain ⟨cd, hc, hd'⟩ := PySem.W.any_some hh
  have hx : s.heap.get? x = some ⟨.ref C, some dx, .plain, #[]⟩ := I.obj
  refine wpAny_bind (wpAny_pure (wpAny_bind (wpAny_bind (wpAny_loadPart hx (wpAny_bind (PySem.W.Looks.here (s := { s with toks := s.toks + 1 }) (PySem.W.looks_clsIn X hc) ?_))))))
  rw [hd']
  refine wpAny_pure (a := some dx) (wpAny_bind (wpAny_pure (wpAny_bind ?_)))
  refine wpAny_nsSet1 (s := { s with toks := s.toks + 1 }) I.ns fun h' hn2 hs2 => ?_
  obtain ⟨oD, esD, epD, hoD, hdD, hcD⟩ := hn2.count (PySem.Within.cons name v hw)
  refine wpAny_bind (wpAny_lookBehind hoD (by rw [hdD]; exact pastItsLine_dict (Nat.le_trans hcD (by rw [List.length_cons]; omega))) ?_)
  exact wpAny_pure (h _ ⟨(hs2.2 _ (Ne.symm I.ne)).trans I.obj, hn2, I.ne⟩ hs2)

/-- C(..): the dict at the heap's end, the instance behind it; then its __init__ -/
theorem make_map {R : Result → Shared → Prop} {vs : List Value} {kw : List (Str × Value)} (X : K.In s.heap) (hm : PySem.W.makesIn K C = true)
    (hi : PySem.W.findIn K (.ref C) "__init__" = some (some (.ref f))) (hf : PySem.W.typeIn K (.ref f) = some (.type "function"))
    (h : codeAny (model prog w) (A.under (.builtin "type.__call__" ⟨.ref C :: vs, kw⟩)) (.call (.ref f) ⟨.ref (s.heap.objs.size + 1) :: vs, kw⟩) (PySem.W.InitBack (s.heap.objs.size + 1) R)
      { s with heap := (s.heap.push PySem.W.emptyDict).push (PySem.W.instObj C s.heap.objs.size) }) :
    codeAny (model prog w) A (.call (.ref C) ⟨vs, kw⟩) R s := by
  obtain ⟨hh, g, d, t, os⟩ := s
  exact PySem.W.make_core (PySem.W.makes_of X hm) (PySem.W.looks_findIn X hi) (fun self => PySem.W.bind_fn X self hf) (.inl rfl) h
/-- C() where there is no __init__ but object's -/
theorem make_map0 {R : Result → Shared → Prop} (X : K.In s.heap) (hm : PySem.W.makesIn K C = true)
    (hi : PySem.W.findIn K (.ref C) "__init__" = some (some (.builtin "object.__init__")))
    (hb : ∀ self, PySem.W.Looks (model prog w) s.heap (bindSpecial (.builtin "object.__init__") self) (.builtin "object.__init__", [self]))
    (h : codeAny (model prog w) (A.under (.builtin "type.__call__" ⟨[.ref C], []⟩)) (.call (.builtin "object.__init__") ⟨[.ref (s.heap.objs.size + 1)], []⟩) (PySem.W.InitBack (s.heap.objs.size + 1) R)
      { s with heap := (s.heap.push PySem.W.emptyDict).push (PySem.W.instObj C s.heap.objs.size) }) :
    codeAny (model prog w) A (.call (.ref C) ⟨[], []⟩) R s := by
  obtain ⟨hh, g, d, t, os⟩ := s
  exact PySem.W.make_core (PySem.W.makes_of X hm) (PySem.W.looks_findIn X hi) hb (.inr ⟨rfl, rfl⟩) h
end

/-! ### the attributes as a list of pairs -/
def putF (f : Str) (v : V) : List (Str × V) → List (Str × V)
  | [] => [(f, v)]
  | (g, x) :: r => if g = f then (g, v) :: r else (g, x) :: putF f v r
theorem lookup_putF (f g : Str) (v : V) : ∀ fs : List (Str × V), (putF f v fs).lookup g = if g = f then some v else fs.lookup g
  | [] => by
    show List.lookup g [(f, v)] = _
    by_cases h : g = f
    · have hb : (g == f) = true := beq_iff_eq.mpr h
      simp only [List.lookup, hb, if_pos h]
    · have hb : (g == f) = false := beq_eq_false_iff_ne.mpr h
      simp only [List.lookup, hb, if_neg h]
  | (k, x) :: r => by
    have ih := lookup_putF f g v r
    rw [show putF f v ((k, x) :: r) = (if k = f then (k, v) :: r else (k, x) :: putF f v r) from rfl]
    by_cases hk : k = f
    · rw [if_pos hk]
      by_cases h : g = k
      · have hb : (g == k) = true := beq_iff_eq.mpr h
        simp only [List.lookup, hb, if_pos (h.trans hk)]
      · have hb : (g == k) = false := beq_eq_false_iff_ne.mpr h
        simp only [List.lookup, hb, if_neg (fun e : g = f => h (e.trans hk.symm))]
    · rw [if_neg hk]
      by_cases h : g = k
      · have hb : (g == k) = true := beq_iff_eq.mpr h
        simp only [List.lookup, hb, if_neg (fun e : g = f => hk (h.symm.trans e))]
      · have hb : (g == k) = false := beq_eq_false_iff_ne.mpr h
        simp only [List.lookup, hb]
        exact ih
theorem keys_putF (f : Str) (v : V) : ∀ fs : List (Str × V), f ∈ (putF f v fs).map (·.1) ∧ ∀ g, g ∈ fs.map (·.1) → g ∈ (putF f v fs).map (·.1)
  | [] => ⟨by simp [putF], fun g h => by simp at h⟩
  | (k, x) :: r => by
    obtain ⟨i1, i2⟩ := keys_putF f v r
    rw [show putF f v ((k, x) :: r) = (if k = f then (k, v) :: r else (k, x) :: putF f v r) from rfl]
    by_cases hk : k = f
    · rw [if_pos hk]
      subst hk
      exact ⟨by simp, fun g h => by simpa using h⟩
    · rw [if_neg hk]
      refine ⟨?_, fun g h => ?_⟩
      · rw [List.map_cons]
        exact List.mem_cons_of_mem _ i1
      · rw [List.map_cons] at h ⊢
        rcases List.mem_cons.mp h with e | e
        · exact List.mem_cons.mpr (.inl e)
        · exact List.mem_cons_of_mem _ (i2 g e)
theorem length_putF (f : Str) (v : V) : ∀ fs : List (Str × V), (putF f v fs).length ≤ fs.length + 1
  | [] => by simp [putF]
  | (k, x) :: r => by
    have ih := length_putF f v r
    rw [show putF f v ((k, x) :: r) = (if k = f then (k, v) :: r else (k, x) :: putF f v r) from rfl]
    by_cases hk : k = f
    · rw [if_pos hk, List.length_cons, List.length_cons]; omega
    · rw [if_neg hk, List.length_cons, List.length_cons]; omega

theorem RelO.some_of {v : V} {o : Option Value} (r : RelO (some v) o) : ∃ u, o = some u ∧ RelV v u := by
  cases o with
  | none => exact (show False from r).elim
  | some u => exact ⟨u, rfl, r⟩
theorem RelO.none_of {o : Option Value} (r : RelO none o) : o = none := by
  cases o with
  | none => rfl
  | some u => exact (show False from r).elim
theorem handed_of {v : V} {u : Value} (r : RelV v u) : PySem.W.handedIn u = true := by
  cases v with
  | non => cases (show u = Value.none from r); rfl
  | bl b => cases (show u = Value.bool b from r); rfl
  | int i => obtain ⟨t, e⟩ := (show ∃ t, u = Value.int i t from r); cases e; rfl
  | str x => obtain ⟨t, e⟩ := (show ∃ t, u = Value.str x t from r); cases e; rfl
  | byt b => obtain ⟨t, e⟩ := (show ∃ t, u = Value.bytes b t from r); cases e; rfl
  | flt b => obtain ⟨t, e⟩ := (show ∃ t, u = Value.float b t from r); cases e; rfl
  | ref a => cases (show u = Value.ref a from r); rfl
  | ty n => cases (show u = Value.type n from r); rfl

section
variable {P : Program} {w : World} {H H' : Hp} {h h' : Heap} {a C dx : Addr} {fs fs' : List (Str × V)}
theorem ins_get (hok : HOk P w H h) (e : H a = some (.ins C dx fs)) : ∃ mA, ObjM h a dx C mA ∧ (∀ f, RelO (fs.lookup f) (mA f)) ∧ PySem.Within mA (fs.map (·.1)) ∧ fs.length ≤ 1000 ∧ H dx = some (.own a) := by
  obtain ⟨d, z, ne, ob, mA, n, r, q⟩ := (show ObjOk P w H h a (.ins C dx fs) from hok a _ e)
  exact ⟨mA, ⟨ob, n, ne⟩, r, q, z, d⟩
end

/-! ### what of the text a class must have -/
structure Cls (K : PySem.W.Frag) (C : Addr) : Prop where
  pg : PySem.W.plainGet K C Str.empty = true
  hd : PySem.W.hasDictIn K C = true
  po : PySem.W.plainOver K C = true
  sa : PySem.W.findIn K (.ref C) "__setattr__" = some (some (.builtin "object.__setattr__"))
theorem Cls.get {K : PySem.W.Frag} {C : Addr} (c : Cls K C) (f : Str) : PySem.W.plainGet K C f = true := c.pg
/-- no class of it has the name -/
def NoAttr (K : PySem.W.Frag) (C : Addr) (f : Str) : Prop := PySem.W.findIn K (.ref C) f = some none
theorem NoAttr.taker {K : PySem.W.Frag} {C : Addr} {f : Str} (n : NoAttr K C f) : PySem.W.takerIn K C f = some none := by
  unfold PySem.W.takerIn
  rw [show PySem.W.findIn K (.ref C) f = some none from n]
  rfl
/-- a constant of the class -/
structure Con (K : PySem.W.Frag) (C : Addr) (f : Str) (v : V) (u : Value) : Prop where
  at_ : PySem.W.findIn K (.ref C) f = some (some u)
  rel : RelV v u
  get : PySem.W.specialIn K u "__get__" = some none
  cp : PySem.W.copiedNames.contains f = false
/-- a method: a plain def of the class or of one above it -/
structure Meth (K : PySem.W.Frag) (C : Addr) (m : Str) (f : Addr) : Prop where
  at_ : PySem.W.findIn K (.ref C) m = some (some (.ref f))
  fn : PySem.W.isFn K (.ref f) = true
  kp : PySem.W.keepIn K (.ref f) = true

section
variable {X : Cx} {pins : List (Addr × Obj)} {σ : St} {H : Hp} {s : Shared} {a C dx : Addr} {fs : List (Str × V)} {f : Str} {v : V} {A : Around} {E : Value → Shared → Prop}

theorem getattr_ok {b : Bool} {Q : Value → Shared → Prop} (I : Inv X pins σ H s) (e : H a = some (.ins C dx fs)) (c : Cls X.K C) (n : NoAttr X.K C f) (l : fs.lookup f = some v)
    (h : ∀ u s', Inv X pins σ H s' → RelV v u → Q u s') : wpAny (model X.prog X.w) A (getAttr (.ref a) f b) Q E s := by
  obtain ⟨mA, O, r, _, _, _⟩ := ins_get I.hok e
  obtain ⟨u, hu, ru⟩ := RelO.some_of (v := v) (o := mA f) (by rw [← l]; exact r f)
  exact get_map I.kIn O (c.get f) c.hd n hu (handed_of ru) (h u _ (I.tok _) ru)

theorem getcon_ok {b : Bool} {u : Value} {Q : Value → Shared → Prop} (I : Inv X pins σ H s) (e : H a = some (.ins C dx fs)) (c : Cls X.K C) (k : Con X.K C f v u) (l : fs.lookup f = none)
    (h : ∀ s', Inv X pins σ H s' → Q u s') : wpAny (model X.prog X.w) A (getAttr (.ref a) f b) Q E s := by
  obtain ⟨mA, O, r, _, _, _⟩ := ins_get I.hok e
  have hn : mA f = none := RelO.none_of (by rw [← l]; exact r f)
  exact get_const I.kIn O (c.get f) c.hd k.at_ k.get k.cp hn (handed_of k.rel) (h _ (I.tok _))

theorem getmeth_ok {m : Str} {g : Addr} {pl : Sem Bool} {Q : Value × List Value → Shared → Prop} (I : Inv X pins σ H s) (e : H a = some (.ins C dx fs)) (c : Cls X.K C) (k : Meth X.K C m g) (l : fs.lookup m = none)
    (h : Q (.ref g, [.ref a]) s) : wpAny (model X.prog X.w) A (getMethod (.ref a) m pl) Q E s := by
  obtain ⟨mA, O, r, _, _, _⟩ := ins_get I.hok e
  have hn : mA m = none := RelO.none_of (by rw [← l]; exact r m)
  exact get_meth I.kIn O (c.get m) k.at_ k.fn hn h

theorem setattr_ok {y : V} {u : Value} {Q : Unit → Shared → Prop} (I : Inv X pins σ H s) (e : H a = some (.ins C dx fs)) (c : Cls X.K C) (n : NoAttr X.K C f) (hl : fs.length < 1000) (ry : RelV y u)
    (h : ∀ s', Inv X pins σ (upd H a (.ins C dx (putF f y fs))) s' → Q () s') : wpAny (model X.prog X.w) A (setAttr (.ref a) f u) Q E s := by
  obtain ⟨mA, O, r, wi, _, ho⟩ := ins_get I.hok e
  have hz : (fs.map (·.1)).length ≤ sizeLine := by rw [List.length_map, sizeLine_eq]; omega
  refine set_map I.kIn O c.sa c.po n.taker c.hd wi hz fun h' O' sb => h _ ?_
  have hd : ∃ o, h'.get? dx = some o := let ⟨o, _, _, e', _⟩ := O'.ns; ⟨o, e'⟩
  refine I.write (x := a) (e := dx) (by rw [e]; exact True.intro) (.inr ho) (fun b q hb z => (sb.2 b hb).trans z) hd ?_
  refine ⟨by rw [upd_ne O.ne]; exact ho, ?_, O.ne, O'.obj, _, O'.ns, fun g => ?_, fun g hg => ?_⟩
  · have := length_putF f y fs; omega
  · show RelO ((putF f y fs).lookup g) (if g = f then some u else mA g)
    rw [lookup_putF]
    by_cases q : g = f
    · rw [if_pos q, if_pos q]; exact ry
    · rw [if_neg q, if_neg q]; exact r g
  · by_cases q : g = f
    · rw [q]; exact (keys_putF f y fs).1
    · refine (keys_putF f y fs).2 g (wi g fun z => hg ?_)
      show (if g = f then some u else mA g) = none
      rw [if_neg q]; exact z

/-- a new instance, tracked, without attributes -/
theorem Inv.made (I : Inv X pins σ H s) : Inv X pins σ (upd (upd H s.heap.objs.size (.own (s.heap.objs.size + 1))) (s.heap.objs.size + 1) (.ins C s.heap.objs.size []))
    { s with heap := (s.heap.push PySem.W.emptyDict).push (PySem.W.instObj C s.heap.objs.size) } := by
  have e1 : (s.heap.push PySem.W.emptyDict).get? s.heap.objs.size = some PySem.W.emptyDict := Heap.get?_push_size s.heap rfl
  have e2 : ((s.heap.push PySem.W.emptyDict).push (PySem.W.instObj C s.heap.objs.size)).get? (s.heap.objs.size + 1) = some (PySem.W.instObj C s.heap.objs.size) := by
    have := Heap.get?_push_size (s.heap.push PySem.W.emptyDict) (o := PySem.W.instObj C s.heap.objs.size) rfl
    rwa [Heap.size_push] at this
  have e3 : (s.heap.push PySem.W.emptyDict).Ns s.heap.objs.size (fun _ => none) := ⟨PySem.W.emptyDict, #[], _, e1, rfl, (fun e he => absurd he (by simp)), fun _ => rfl⟩
  have I1 := I.laid (a := s.heap.objs.size) (o := .own (s.heap.objs.size + 1)) (h' := s.heap.push PySem.W.emptyDict) (t' := s.toks) (fun b u q => Heap.get?_push_of_some _ q) (Nat.le_refl _) ⟨_, e1⟩
  refine I1.laid (a := s.heap.objs.size + 1) (o := .ins C s.heap.objs.size []) (t' := s.toks) (fun b u q => Heap.get?_push_of_some _ q) (Nat.le_of_eq (Heap.size_push _ _)) ?_
  have ne : s.heap.objs.size ≠ s.heap.objs.size + 1 := Nat.ne_of_lt (Nat.lt_succ_self _)
  refine ⟨by rw [upd_ne ne, upd_same], Nat.zero_le _, ne, e2, fun _ => none, (Heap.Ns1.of_empty e3).at fun o q => Heap.get?_push_of_some _ q, fun _ => True.intro, fun y hy => absurd rfl hy⟩

/-- e.f where nothing but the object is asked: through attributeBase (super) and the last hold -/
theorem attr_of {prog : Program} {w : World} {env : Env} {e : Expr} {f : Str} {pos : Pos} {s : Shared} {Q : Value → Shared → Prop} (hb : attributeBase e f env (eval e env) = eval e env)
    (h : wpAny (model prog w) A (eval e env) (fun o s₁ => wpAny (model prog w) A (getAttr o f true) Q E s₁) E s) : wpAny (model prog w) A (eval (.Attribute e f pos) env) Q E s :=
  Attribute_any_ h (by rw [arm_eval_Attribute, hb])
end

/-! ### readings and rules -/
/-- e.f, an attribute of the instance -/
def tFld (K : PySem.W.Frag) (ta : TE) (f : Str) : TE := fun σ H Q => ta σ H fun x H1 => ∃ a C dx fs v, x = .ref a ∧ H1 a = some (.ins C dx fs) ∧ Cls K C ∧ NoAttr K C f ∧ fs.lookup f = some v ∧ Q v H1
/-- e.f, a constant of the class -/
def tCon (K : PySem.W.Frag) (ta : TE) (f : Str) : TE := fun σ H Q => ta σ H fun x H1 => ∃ a C dx fs v u, x = .ref a ∧ H1 a = some (.ins C dx fs) ∧ Cls K C ∧ Con K C f v u ∧ fs.lookup f = none ∧ Q v H1
/-- e.f = value -/
def sFld (K : PySem.W.Frag) (ta tv : TE) (f : Str) : TS := fun D σ H => tv σ H fun y H1 => ta σ H1 fun x H2 => ∃ a C dx fs, x = .ref a ∧ H2 a = some (.ins C dx fs) ∧ Cls K C ∧ NoAttr K C f ∧ fs.length < 1000 ∧
  D.nx σ (upd H2 a (.ins C dx (putF f y fs)))
/-- an augmented operator on two values -/
def InOp (X : Cx) (op : Operator) (rd : V → V → Hp → VK → Prop) : Prop :=
  ∀ (pins : List (Addr × Obj)) (s : Shared) (σ : St) (H : Hp) (x y : V) (u v : Value) (Q : VK), Inv X pins σ H s → RelV x u → RelV y v → rd x y H Q → wpAny (model X.prog X.w) X.A (inplaceOp op u v) (EP X pins σ Q) X.xe s
/-- e.f op= value -/
def sFldAug (K : PySem.W.Frag) (ta tv : TE) (rd : V → V → Hp → VK → Prop) (f : Str) : TS := fun D σ H => ta σ H fun x H1 => ∃ a C dx fs v, x = .ref a ∧ H1 a = some (.ins C dx fs) ∧ Cls K C ∧ NoAttr K C f ∧ fs.lookup f = some v ∧
  tv σ H1 fun y H2 => rd v y H2 fun z H3 => ∃ dx' fs', H3 a = some (.ins C dx' fs') ∧ fs'.length < 1000 ∧ D.nx σ (upd H3 a (.ins C dx' (putF f z fs')))

section
variable {X : Cx} {o e value : Expr} {f : Str} {pos pos' tpos : Pos} {ta tv : TE}
theorem pe_fld (he : PE X e ta) (hb : attributeBase e f X.env (eval e X.env) = eval e X.env) : PE X (.Attribute e f pos) (tFld X.K ta f) := by
  intro pins s σ H Q I h
  refine attr_of hb (thn (he pins s σ H _ I h) fun u s1 ⟨x, H1, I1, rx, a, C, dx, fs, v, ex, ea, c, n, l, q⟩ => ?_)
  subst ex
  obtain rfl : u = Value.ref a := rx
  exact getattr_ok I1 ea c n l fun u' s2 I2 ru => ⟨v, H1, I2, ru, q⟩
theorem pe_con (he : PE X e ta) (hb : attributeBase e f X.env (eval e X.env) = eval e X.env) : PE X (.Attribute e f pos) (tCon X.K ta f) := by
  intro pins s σ H Q I h
  refine attr_of hb (thn (he pins s σ H _ I h) fun u s1 ⟨x, H1, I1, rx, a, C, dx, fs, v, u0, ex, ea, c, k, l, q⟩ => ?_)
  subst ex
  obtain rfl : u = Value.ref a := rx
  exact getcon_ok I1 ea c k l fun s2 I2 => ⟨v, H1, I2, k.rel, q⟩
theorem ps_fld (ha : PE X o ta) (hv : PE X value tv) (hs : swapsWith value (some (.Attribute o f pos')) pos.line X.env = pure false) : PS X (.Assign [.Attribute o f pos'] value pos) (sFld X.K ta tv f) := by
  intro pins s σ H D I h
  refine plainObj_wpAny_Assign_Attribute (thn (hv pins s σ H _ I h) fun u s1 ⟨y, H1, I1, ry, q⟩ => thn (ha pins s1 σ H1 _ I1 q) fun ov s2 ⟨x, H2, I2, rx, a, C, dx, fs, ex, ea, c, n, l, q2⟩ => ?_) hs
  subst ex
  obtain rfl : ov = Value.ref a := rx
  exact setattr_ok I2 ea c n l ry fun s3 I3 => ⟨σ, _, I3, q2⟩
theorem ps_fldaug {op : Operator} {rd : V → V → Hp → VK → Prop} (ha : PE X o ta) (hv : PE X value tv) (hop : InOp X op rd) : PS X (.AugAssign (.Attribute o f tpos) op value pos) (sFldAug X.K ta tv rd f) := by
  intro pins s σ H D I h
  refine wpAny_AugAssign_AttributeAny (thn (ha pins s σ H _ I h) fun ov s1 ⟨x, H1, I1, rx, a, C, dx, fs, v, ex, ea, c, n, l, q⟩ => ?_)
  subst ex
  obtain rfl : ov = Value.ref a := rx
  refine getattr_ok I1 ea c n l fun u s2 I2 ru => thn (hv pins s2 σ H1 _ I2 q) fun w3 s3 ⟨y, H2, I3, ry, q3⟩ => thn (hop pins s3 σ H2 v y u w3 _ I3 ru ry q3) fun w4 s4 ⟨z, H3, I4, rz, dx', fs', ea', l', q4⟩ => ?_
  exact setattr_ok I4 ea' c n l' rz fun s5 I5 => ⟨σ, _, I5, q4⟩
def rAdd : V → V → Hp → VK → Prop := fun x y H Q => ∃ i j, x = .int i ∧ y = .int j ∧ Q (.int (i + j)) H
def rSub : V → V → Hp → VK → Prop := fun x y H Q => ∃ i j, x = .int i ∧ y = .int j ∧ Q (.int (i - j)) H
theorem in_add : InOp X .Add rAdd := by
  rintro pins s σ H x y u v Q I rx ry ⟨i, j, rfl, rfl, q⟩
  obtain ⟨t, rfl⟩ := (show ∃ t, u = Value.int i t from rx)
  obtain ⟨t', rfl⟩ := (show ∃ t', v = Value.int j t' from ry)
  exact PyProof.Rows.iadd_int ⟨.int (i + j), H, I.tok _, ⟨_, rfl⟩, q⟩
theorem in_sub : InOp X .Sub rSub := by
  rintro pins s σ H x y u v Q I rx ry ⟨i, j, rfl, rfl, q⟩
  obtain ⟨t, rfl⟩ := (show ∃ t, u = Value.int i t from rx)
  obtain ⟨t', rfl⟩ := (show ∃ t', v = Value.int j t' from ry)
  exact PyProof.Rows.isub_int ⟨.int (i - j), H, I.tok _, ⟨_, rfl⟩, q⟩

/-- what is between an instance and its method: the tree of a method call -/
theorem methcall_of {pl : Sem Bool} {m : Str} {apos : Pos} {args : List Expr} {pins : List (Addr × Obj)} {s : Shared} {σ : St} {H : Hp} {Q : Value → Shared → Prop} {te : TE} (he : PE X e te) (I : Inv X pins σ H s)
    (h : te σ H fun x H1 => ∃ a C dx fs g, x = .ref a ∧ H1 a = some (.ins C dx fs) ∧ Cls X.K C ∧ Meth X.K C m g ∧ fs.lookup m = none ∧
      ∀ s1, Inv X pins σ H1 s1 → wpAny (model X.prog X.w) X.A (callWith pos (.ref g) [.ref a] (backTo pos (starEach args X.env)) (backToKw pos (keywordEach [] X.env))) Q X.xe s1)
    (ht : eval (.Call (.Attribute e m apos) args [] pos) X.env = (do
      let ov ← eval e X.env
      standAt apos.atName
      let (f, first) ← holding [ov] (getMethod ov m pl)
      callWith pos f first (backTo pos (starEach args X.env)) (backToKw pos (keywordEach [] X.env)))) :
    wpAny (model X.prog X.w) X.A (eval (.Call (.Attribute e m apos) args [] pos) X.env) Q X.xe s := by
  refine PySem.W.methodCall_KW (pl := pl) (thn (he pins s σ H _ I h) fun u s1 ⟨x, H1, I1, rx, a, C, dx, fs, g, ex, ea, c, k, l, q⟩ => ?_) ht
  subst ex
  obtain rfl : u = Value.ref a := rx
  exact getmeth_ok I1 ea c k l (q s1 I1)
end

/-! ### isinstance -/
section
variable {X : Cx} {pins : List (Addr × Obj)} {σ : St} {H : Hp} {s : Shared} {A : Around} {E : Value → Shared → Prop} {Q : Value → Shared → Prop} {c : Value} {b : Bool}
/-- the type of a value, as the fragment's deciders take it; for an instance its class -/
inductive TyOf (K : PySem.W.Frag) (H : Hp) : V → Value → Prop where
  | non : TyOf K H .non (.type "NoneType")
  | bl (x : Bool) : TyOf K H (.bl x) (.type "bool")
  | int (i : Int) : TyOf K H (.int i) (.type "int")
  | str (x : Str) : TyOf K H (.str x) (.type "str")
  | flt (x : UInt64) : TyOf K H (.flt x) (.type "float")
  | lst {a : Addr} {xs : List V} (e : H a = some (.lst xs)) : TyOf K H (.ref a) (.type "list")
  | frz {a : Addr} {o : Obj} {xs : List V} (e : H a = some (.frz o (.lst xs))) : TyOf K H (.ref a) (.type "list")
  | tup {a : Addr} {xs : List V} (e : H a = some (.tup xs)) : TyOf K H (.ref a) (.type "tuple")
  | dK {a : Addr} {kvs : List (Key × V)} (e : H a = some (.dK kvs)) : TyOf K H (.ref a) (.type "dict")
  | dT {a : Addr} {kvs : List (List Key × V)} (e : H a = some (.dT kvs)) : TyOf K H (.ref a) (.type "dict")
  | ins {a C dx : Addr} {fs : List (Str × V)} (e : H a = some (.ins C dx fs)) (cl : Cls K C) (ha : PySem.W.findIn K (.ref C) "__class__" = some (some (.builtin "object.__class__")))
      (hn : PySem.W.specialIn K (.builtin "object.__class__") "__get__" = some (some (.builtin "getset_descriptor.__get__"))) (htk : PySem.W.takesIn K (.builtin "object.__class__") = some true)
      (hm : PySem.W.mroIn K C (.type "object") = some true) : TyOf K H (.ref a) (.ref C)
/-- isinstance(x, c) for one class c, a built-in or an own one: kitOne's answer -/
theorem isinst_ok {x : V} {u t : Value} (I : Inv X pins σ H s) (rx : RelV x u) (ty : TyOf X.K H x t) (e : PySem.W.kitOne X.K t c = some b) (h : ∀ tk, Q (.bool b) { s with toks := tk }) :
    wpAny (model X.prog X.w) A (call (.builtin "isinstance") [u, c]) Q E s := by
  cases ty with
  | non => cases (show u = Value.none from rx); exact PySem.W.kia_one PySem.W.kitx_none I.kIn True.intro e (fun z => nomatch z) h
  | bl y => cases (show u = Value.bool y from rx); exact PySem.W.kia_one PySem.W.kitx_bool I.kIn True.intro e (fun z => nomatch z) h
  | int i => obtain ⟨t, q⟩ := (show ∃ t, u = Value.int i t from rx); cases q; exact PySem.W.kia_one PySem.W.kitx_int I.kIn True.intro e (fun z => nomatch z) h
  | str y => obtain ⟨t, q⟩ := (show ∃ t, u = Value.str y t from rx); cases q; exact PySem.W.kia_one PySem.W.kitx_str I.kIn True.intro e (fun z => nomatch z) h
  | flt y => obtain ⟨t, q⟩ := (show ∃ t, u = Value.float y t from rx); cases q; exact PySem.W.kia_one PySem.W.kitx_float I.kIn True.intro e (fun z => nomatch z) h
  | @lst a xs ea =>
    cases (show u = Value.ref a from rx)
    obtain ⟨_, _, n, _, h1⟩ := (show ObjOk X.prog X.w H s.heap a (.lst xs) from I.hok a _ ea)
    exact PySem.W.kia_one PySem.W.kitx_list I.kIn ⟨_, h1, rfl⟩ e (fun z => nomatch z) h
  | @frz a ob xs ea =>
    cases (show u = Value.ref a from rx)
    obtain ⟨_, _, _, n, _, h1⟩ := (show ObjOk X.prog X.w H s.heap a (.frz ob (.lst xs)) from I.hok a _ ea)
    exact PySem.W.kia_one PySem.W.kitx_list I.kIn ⟨_, h1, rfl⟩ e (fun z => nomatch z) h
  | @tup a xs ea =>
    cases (show u = Value.ref a from rx)
    obtain ⟨_, _, _, p⟩ := (show ObjOk X.prog X.w H s.heap a (.tup xs) from I.hok a _ ea)
    obtain ⟨o, h1, h2, _⟩ := p
    exact PySem.W.kia_one PySem.W.kitx_tuple I.kIn ⟨o, h1, h2⟩ e (fun z => nomatch z) h
  | @dK a kvs ea =>
    cases (show u = Value.ref a from rx)
    obtain ⟨_, _, vs, _, p⟩ := (show ObjOk X.prog X.w H s.heap a (.dK kvs) from I.hok a _ ea)
    obtain ⟨o, es, ep, h1, h2, _⟩ := p
    exact PySem.W.kia_one PySem.W.kitx_dict I.kIn ⟨o, h1, h2.1⟩ e (fun z => nomatch z) h
  | @dT a kvs ea =>
    cases (show u = Value.ref a from rx)
    obtain ⟨_, _, xs, _, o, es, ep, h1, h2, _⟩ := (show ObjOk X.prog X.w H s.heap a (.dT kvs) from I.hok a _ ea)
    exact PySem.W.kia_one PySem.W.kitx_dict I.kIn ⟨o, h1, h2.1⟩ e (fun z => nomatch z) h
  | @ins a C dx fs ea cl ha hn htk hm =>
    cases (show u = Value.ref a from rx)
    obtain ⟨mA, O, _⟩ := ins_get I.hok ea
    obtain ⟨od, J, _⟩ := O.look
    exact PySem.W.kia_one (PySem.W.kitx_own (cl.get _) cl.hd ha hn htk hm) I.kIn J e (fun z => nomatch z) h
end
end L2

namespace L2
open PySem PySem.Spec PyProof.Rows

/-! ### room -/
structure Room (k : Nat) (A : Around) : Prop where
  hd : A.handled = none
  dp : A.depth + 3 * k + 5 < recursionLimit
  un : A.units + 16 * k + 200 < cLine
theorem Room.mono {j k : Nat} {A : Around} (r : Room k A) (h : j ≤ k) : Room j A := ⟨r.hd, by have := r.dp; omega, by have := r.un; omega⟩
theorem Room.deeper {k : Nat} {A : Around} (r : Room (k + 1) A) (env : Env) : Room k (A.deeper env) :=
  ⟨r.hd, by have := r.dp; show A.depth + 1 + 3 * k + 5 < _; omega, by have := r.un; show A.units + 3 + 16 * k + 200 < _; omega⟩
theorem Room.in1 {k : Nat} {A : Around} (r : Room (k + 1) A) : Room k A.in1 :=
  ⟨r.hd, by have := r.dp; show A.depth + 3 * k + 5 < _; omega, by have := r.un; show A.units + 1 + 16 * k + 200 < _; omega⟩
theorem make_depth {A : Around} {C : Addr} {us : List Value} {kw : List (Str × Value)} : (A.under (.builtin "type.__call__" ⟨.ref C :: us, kw⟩)).depth = A.depth + 1 := by
  first | rfl | simp [Around.under, Code.weight, Code.isCreation, Code.isGuard, Code.isCaller, Code.frames, Code.isFrame, guardIds]
theorem make_units {A : Around} {C : Addr} {us : List Value} {kw : List (Str × Value)} : (A.under (.builtin "type.__call__" ⟨.ref C :: us, kw⟩)).units = A.units + 1 := by
  first | rfl | simp [Around.under, Code.cUnits, Code.frames, Code.isFrame]
theorem Room.make {k : Nat} {A : Around} (r : Room (k + 1) A) (C : Addr) (us : List Value) (kw : List (Str × Value)) : Room k (A.under (.builtin "type.__call__" ⟨.ref C :: us, kw⟩)) :=
  ⟨r.hd, by have := r.dp; rw [make_depth]; omega, by have := r.un; rw [make_units]; omega⟩
theorem Room.depth {k : Nat} {A : Around} (r : Room k A) : A.depth < recursionLimit := by have := r.dp; omega
theorem Room.units {k : Nat} {A : Around} (r : Room k A) : A.units + 64 < cLine := by have := r.un; omega
theorem Room.units0 {k : Nat} {A : Around} (r : Room k A) : A.units < cLine := by have := r.un; omega

/-! ### argument lists and displays -/
def tNil : TA := fun _ H Q => Q [] H
def tCons (ta : TE) (tr : TA) : TA := fun σ H Q => ta σ H fun x H1 => tr σ H1 fun xs H2 => Q (x :: xs) H2
section
variable {X : Cx} {e : Expr} {es : List Expr} {te : TE} {t : TA} {pos : Pos}
theorem pa_nil : PA X [] tNil := fun _ _ _ _ H Q I h => Calls.spliced_nil ⟨[], H, I, .nil, h⟩
theorem pa_cons (ha : PE X e te) (hr : PA X es t) (hs : starEach (e :: es) X.env = (false, eval e X.env) :: starEach es X.env := by rfl) : PA X (e :: es) (tCons te t) := by
  intro pos pins s σ H Q I h
  rw [hs]
  show wpAny _ _ (spliced ((false, eval e X.env) :: backTo pos (starEach es X.env))) _ _ s
  refine Calls.spliced_cons (thn (ha pins s σ H _ I h) fun u s1 ⟨x, H1, I1, r1, q1⟩ => ?_)
  exact thn (hr pos pins s1 σ H1 _ I1 q1) fun us s2 ⟨xs, H2, I2, r2, q2⟩ => ⟨x :: xs, H2, I2, .cons r1 r2, q2⟩

/-- a tuple, a list of written items -/
def tTup (t : TA) : TE := fun σ H Q => t σ H fun xs H1 => xs.length ≤ sizeLine ∧ ∀ p, H1 p = none → Q (.ref p) (upd H1 p (.tup xs))
def tLst (t : TA) : TE := fun σ H Q => t σ H fun xs H1 => xs.length ≤ sizeLine ∧ ∀ p, H1 p = none → Q (.ref p) (upd H1 p (.lst xs))
theorem pe_tup {x1} (h : PA X es t) : PE X (.Tuple es x1 pos) (tTup t) := by
  intro pins s σ H Q I hq
  refine wpAny_Tuple_spliced (thn (h pos pins s σ H _ I hq) fun us s1 ⟨xs, H1, I1, r, z, q⟩ => ⟨by rw [← r.length]; exact z, ?_⟩)
  have hf : H1 s1.heap.objs.size = none := I1.hok.fresh (Nat.le_refl _)
  refine ⟨.ref s1.heap.objs.size, upd H1 s1.heap.objs.size (.tup xs), I1.laid (t' := s1.toks) (fun b u e => Heap.get?_push_of_some _ e) (Nat.le_refl _) ?_, rfl, q _ hf⟩
  exact ⟨z, us, r, ⟨_, Heap.get?_push_size _ rfl, rfl, _, rfl⟩⟩
theorem pe_lst (h : PA X es t) : PE X (.List es pos) (tLst t) := by
  intro pins s σ H Q I hq
  refine wpAny_List_spliced (thn (h pos pins s σ H _ I hq) fun us s1 ⟨xs, H1, I1, r, z, q⟩ => ⟨by rw [← r.length]; exact z, ?_⟩)
  have hf : H1 s1.heap.objs.size = none := I1.hok.fresh (Nat.le_refl _)
  refine ⟨.ref s1.heap.objs.size, upd H1 s1.heap.objs.size (.lst xs), I1.laid (t' := s1.toks) (fun b u e => Heap.get?_push_of_some _ e) (Nat.le_refl _) ?_, rfl, q _ hf⟩
  exact ⟨z, us, 0, r, Heap.get?_push_size _ rfl⟩
end

/-! ### what a def promises -/
/-- a def's promise: the bound arguments in the parameters' order, the heap, the wanted end, the wanted exception -/
abbrev Sp := List V → Hp → VK → XK → Prop
/-- how an exception lies behind a call (file 08 gives it): the callers' frames, abstract heap and state ahead of the call, the wish, the exception, the state -/
abbrev CXT := List Env → Hp → Shared → XK → Value → Shared → Prop

/-- the state at a call -/
structure Env0 (P : Program) (w : World) (K : PySem.W.Frag) (mg : Str → Option Value) (base : Heap) (A : Around) (outer : List Env) (s : Shared) (H : Hp) : Prop where
  frames : A.frames = some outer
  mod : Mod K mg base
  bs : ∀ b o, base.get? b = some o → s.heap.get? b = some o ∧ H b = none
  bsz : base.objs.size ≤ s.heap.objs.size
  funs : s.heap.FunFrames base outer
  frf : ∀ b ∈ frs outer, H b = none
  hok : HOk P w H s.heap
  bare : AllBare s.gens
/-- a call's end -/
def CE (outer : List Env) (P : Program) (w : World) (H : Hp) (s : Shared) (Q : VK) (u : Value) (s' : Shared) : Prop :=
  ∃ v H', s'.os = s.os ∧ AllBare s'.gens ∧ Un (frs outer) [] H H' s.heap s'.heap ∧ HOk P w H' s'.heap ∧ RelV v u ∧ Q v H'
def CR (CX : CXT) (outer : List Env) (P : Program) (w : World) (H : Hp) (s : Shared) (Q : VK) (E : XK) (r : Result) (s' : Shared) : Prop :=
  match r with
  | .ok (.ret u) => CE outer P w H s Q u s'
  | .ok _ => False
  | .error e => CX outer H s E e s'
structure FnOk (P : Program) (w : World) (K : PySem.W.Frag) (mg : Str → Option Value) (base : Heap) (CX : CXT) (k : Nat) (f : Addr) (fd : FuncData) (ps : List Str) (sp : Sp) : Prop where
  len : ∀ vs H Q E, sp vs H Q E → vs.length = ps.length
  run : ∀ (A : Around) (outer : List Env) (s : Shared) (H : Hp) (args : Args) (us : List Value) (vs : List V) (Q : VK) (E : XK), Room k A → Env0 P w K mg base A outer s H → BindsTo s fd args (ps.zip us) → Vals vs us → sp vs H Q E →
    codeAny (model P w) A (.call (.ref f) args) (CR CX outer P w H s Q E) s
theorem FnOk.mono {P : Program} {w : World} {K : PySem.W.Frag} {mg : Str → Option Value} {base : Heap} {CX : CXT} {j k : Nat} {f : Addr} {fd : FuncData} {ps : List Str} {sp : Sp} (F : FnOk P w K mg base CX j f fd ps sp) (h : j ≤ k) :
    FnOk P w K mg base CX k f fd ps sp := ⟨F.len, fun A outer s H args us vs Q E hr => F.run A outer s H args us vs Q E (hr.mono h)⟩
/-- a weaker promise -/
theorem FnOk.imp {P : Program} {w : World} {K : PySem.W.Frag} {mg : Str → Option Value} {base : Heap} {CX : CXT} {k : Nat} {f : Addr} {fd : FuncData} {ps : List Str} {sp sp' : Sp} (F : FnOk P w K mg base CX k f fd ps sp)
    (h : ∀ vs H Q E, sp' vs H Q E → sp vs H Q E) : FnOk P w K mg base CX k f fd ps sp' :=
  ⟨fun vs H Q E q => F.len vs H Q E (h _ _ _ _ q), fun A outer s H args us vs Q E hr he hb hv hs => F.run A outer s H args us vs Q E hr he hb hv (h _ _ _ _ hs)⟩

theorem Env0.make {P : Program} {w : World} {K : PySem.W.Frag} {mg : Str → Option Value} {base : Heap} {A : Around} {outer : List Env} {s : Shared} {H : Hp} (e : Env0 P w K mg base A outer s H) (C : Addr) (us : List Value) (kw : List (Str × Value)) :
    Env0 P w K mg base (A.under (.builtin "type.__call__" ⟨.ref C :: us, kw⟩)) outer s H := ⟨by first | exact e.frames | (simpa [Around.under, Code.envs, Code.isFrame, pushEnvs] using e.frames), e.mod, e.bs, e.bsz, e.funs, e.frf, e.hok, e.bare⟩
theorem Env0.in1 {P : Program} {w : World} {K : PySem.W.Frag} {mg : Str → Option Value} {base : Heap} {A : Around} {outer : List Env} {s : Shared} {H : Hp} (e : Env0 P w K mg base A outer s H) :
    Env0 P w K mg base A.in1 outer s H := ⟨e.frames, e.mod, e.bs, e.bsz, e.funs, e.frf, e.hok, e.bare⟩

section
variable {X : Cx} {pins : List (Addr × Obj)} {σ : St} {H : Hp} {s s' : Shared}
/-- from a body: what a callee wants -/
theorem Inv.env0 (I : Inv X pins σ H s) : Env0 X.prog X.w X.K X.mg X.base X.A X.stack s H :=
  ⟨I.ok.frames, I.ok.mod, I.bs, Nat.le_trans I.ok.bsz I.sz, I.stack, I.stkFree, I.hok, I.bare⟩
/-- behind a call -/
theorem Inv.after {Q : VK} {u : Value} (I : Inv X pins σ H s) (h : CE X.stack X.prog X.w H s Q u s') : EP X pins σ Q u s' := by
  obtain ⟨v, H', os, bare, un, hok, r, q⟩ := h
  obtain ⟨hh, g, d, t, os'⟩ := s'
  obtain rfl : os' = s.os := os
  exact ⟨v, H', I.call (h' := hh) (g' := g) (d' := d) (t' := t) (ch := []) un hok bare (fun b z => absurd z (by simp)), r, q⟩
end

/-! ### calls -/
/-- f(..): the written arguments, then the defaults dvs; E: what is wanted of an exception -/
def tCall (sp : Sp) (dvs : List V) (E : XK) (t : TA) : TE := fun σ H Q => t σ H fun vs H1 => sp (vs ++ dvs) H1 Q E
/-- o.m(..) of an instance of the class at C -/
def tMeth (C : Addr) (m : Str) (sp : Sp) (dvs : List V) (E : XK) (ta : TE) (t : TA) : TE := fun σ H Q => ta σ H fun x H1 => ∃ a dx fs, x = .ref a ∧ H1 a = some (.ins C dx fs) ∧ fs.lookup m = none ∧
  t σ H1 fun vs H2 => sp (x :: (vs ++ dvs)) H2 Q E
/-- C(..): a new instance and its dict, then __init__ -/
def tMake (C : Addr) (sp : Sp) (dvs : List V) (E : XK) (t : TA) : TE := fun σ H Q => t σ H fun vs H1 => ∀ x dx, H1 x = none → H1 dx = none → dx ≠ x →
  sp (.ref x :: (vs ++ dvs)) (upd (upd H1 dx (.own x)) x (.ins C dx [])) (fun v H2 => v = .non ∧ Q (.ref x) H2) E

/-- how the parameters are bound: us the positional arguments, kw the keywords' values by name, ds the defaults that fill up -/
def Binds (K : PySem.W.Frag) (fd : FuncData) (ps : List Str) (ds : List Value) : Prop :=
  ∀ (s : Shared) (us : List Value), K.In s.heap → (us ++ ds).length = ps.length → BindsTo s fd ⟨us, []⟩ (ps.zip (us ++ ds))
/-- every parameter is given -/
theorem Binds.all {K : PySem.W.Frag} {fd : FuncData} {ps : List Str} (h : ∀ us : List Value, us.length = ps.length → bindArgs fd ⟨us, []⟩ = pure (ps.zip us)) : Binds K fd ps [] := fun s us _ hl => by
  rw [List.append_nil] at hl ⊢
  exact .of_eq (h us hl)

/-- an exception of a callee reaches what this body wants of exceptions -/
def Passes (CX : CXT) (X : Cx) (E : XK) : Prop := ∀ (pins : List (Addr × Obj)) (σ : St) (H : Hp) (s : Shared) (e : Value) (s' : Shared), Inv X pins σ H s → CX X.stack H s E e s' → X.xe e s'

section
variable {X : Cx} {CX : CXT} {k : Nat} {f C : Addr} {fd : FuncData} {ps : List Str} {sp : Sp} {dvs : List V} {ds : List Value} {E : XK} {x m : Str} {p pos apos : Pos} {e o : Expr} {es : List Expr} {ta : TE} {t : TA}

/-- the callee runs -/
theorem run_fn {pins : List (Addr × Obj)} {σ : St} {H : Hp} {s : Shared} {Q : VK} {us : List Value} {vs : List V} (F : FnOk X.prog X.w X.K X.mg X.base CX k f fd ps sp) (hr : Room k X.A) (hb : Binds X.K fd ps ds) (hd : Vals dvs ds) (hx : Passes CX X E)
    (I : Inv X pins σ H s) (r : Vals vs us) (h : sp (vs ++ dvs) H Q E) : wpAny (model X.prog X.w) X.A (call (.ref f) us) (EP X pins σ Q) X.xe s := by
  have r2 : Vals (vs ++ dvs) (us ++ ds) := r.append hd
  have hl : (us ++ ds).length = ps.length := by rw [← r2.length]; exact F.len _ _ _ _ h
  refine wpAny_call (codeAny_mono (F.run X.A X.stack s H ⟨us, []⟩ (us ++ ds) (vs ++ dvs) Q E hr I.env0 (hb s us I.kIn hl) r2 h) fun r s' hq => ?_)
  cases r with
  | error e => exact hx pins σ H s e s' I hq
  | ok fl =>
    cases fl with
    | ret u => exact I.after hq
    | next => exact False.elim hq
    | brk => exact False.elim hq
    | cont => exact False.elim hq

theorem pe_call (F : FnOk X.prog X.w X.K X.mg X.base CX k f fd ps sp) (hr : Room k X.A) (hg : Gl X x) (hm : X.mg x = some (.ref f)) (hk : PySem.W.keepIn X.K (.ref f) = true) (hb : Binds X.K fd ps ds) (hd : Vals dvs ds) (hx : Passes CX X E)
    (ha : PA X (e :: es) t) (hdb : (x == ("__debug__" : Str)) = false := by decide) (he : starEach (e :: es) X.env = (false, eval e X.env) :: starEach es X.env := by rfl) (hpl : (backTo pos (starEach es X.env)).any (·.1) = false := by rfl) :
    PE X (.Call (.Name x p) (e :: es) [] pos) (tCall sp dvs E t) := by
  intro pins s σ H Q I h
  refine wpAny_Call_Name_kw (ld_glob I hg hm ?_ hdb)
  refine PySem.W.callWith_K (h₀ := X.base) I.ok.mod.kin hk (thn (ha pos pins s σ H _ I h) fun us s1 ⟨vs, H1, I1, r, q⟩ => ⟨I1.kIn, ?_⟩) he hpl
  exact run_fn F hr hb hd hx I1 r q
theorem pe_call0 (F : FnOk X.prog X.w X.K X.mg X.base CX k f fd ps sp) (hr : Room k X.A) (hg : Gl X x) (hm : X.mg x = some (.ref f)) (hk : PySem.W.keepIn X.K (.ref f) = true) (hb : Binds X.K fd ps ds) (hd : Vals dvs ds) (hx : Passes CX X E)
    (hdb : (x == ("__debug__" : Str)) = false := by decide) : PE X (.Call (.Name x p) [] [] pos) (tCall sp dvs E tNil) := by
  intro pins s σ H Q I h
  refine wpAny_Call_Name_kw (ld_glob I hg hm ?_ hdb)
  exact PySem.W.callWith_K0 I.kIn hk (run_fn (us := []) F hr hb hd hx I .nil h)

/-- o.m(e, ..) -/
theorem pe_meth {pl : Sem Bool} (he : PE X o ta) (c : Cls X.K C) (hm : Meth X.K C m f) (F : FnOk X.prog X.w X.K X.mg X.base CX k f fd ps sp) (hr : Room k X.A) (hb : Binds X.K fd ps ds) (hd : Vals dvs ds) (hx : Passes CX X E) (ha : PA X (e :: es) t)
    (hst : starEach (e :: es) X.env = (false, eval e X.env) :: starEach es X.env := by rfl) (hpl : (backTo pos (starEach es X.env)).any (·.1) = false := by rfl)
    (ht : eval (.Call (.Attribute o m apos) (e :: es) [] pos) X.env = (do
      let ov ← eval o X.env
      standAt apos.atName
      let (f, first) ← holding [ov] (getMethod ov m pl)
      callWith pos f first (backTo pos (starEach (e :: es) X.env)) (backToKw pos (keywordEach [] X.env))) := by rfl) :
    PE X (.Call (.Attribute o m apos) (e :: es) [] pos) (tMeth C m sp dvs E ta t) := by
  intro pins s σ H Q I h
  refine PySem.W.methodCall_KW (pl := pl) (thn (he pins s σ H _ I h) fun u s1 ⟨x, H1, I1, rx, a, dx, fs, ex, ea, l, q⟩ => ?_) ht
  subst ex
  obtain rfl : u = Value.ref a := rx
  refine getmeth_ok I1 ea c hm l ?_
  refine PySem.W.callWith_K (first := [.ref a]) (h₀ := X.base) I.ok.mod.kin hm.kp (thn (ha pos pins s1 σ H1 _ I1 q) fun us s2 ⟨vs, H2, I2, r, q2⟩ => ⟨I2.kIn, ?_⟩) hst hpl
  exact run_fn (us := .ref a :: us) (vs := .ref a :: vs) F hr hb hd hx I2 (.cons rfl r) q2
/-- o.m() -/
theorem pe_meth0 {pl : Sem Bool} (he : PE X o ta) (c : Cls X.K C) (hm : Meth X.K C m f) (F : FnOk X.prog X.w X.K X.mg X.base CX k f fd ps sp) (hr : Room k X.A) (hb : Binds X.K fd ps ds) (hd : Vals dvs ds) (hx : Passes CX X E)
    (ht : eval (.Call (.Attribute o m apos) [] [] pos) X.env = (do
      let ov ← eval o X.env
      standAt apos.atName
      let (f, first) ← holding [ov] (getMethod ov m pl)
      callWith pos f first (backTo pos (starEach [] X.env)) (backToKw pos (keywordEach [] X.env))) := by rfl) :
    PE X (.Call (.Attribute o m apos) [] [] pos) (tMeth C m sp dvs E ta tNil) := by
  intro pins s σ H Q I h
  refine PySem.W.methodCall_KW (pl := pl) (thn (he pins s σ H _ I h) fun u s1 ⟨x, H1, I1, rx, a, dx, fs, ex, ea, l, q⟩ => ?_) ht
  subst ex
  obtain rfl : u = Value.ref a := rx
  refine getmeth_ok I1 ea c hm l ?_
  exact PySem.W.callWith_K0 (first := [.ref a]) I1.kIn hm.kp (run_fn (us := [.ref a]) (vs := [.ref a]) F hr hb hd hx I1 (.cons rfl .nil) q)

/-- what a class must have to be made -/
structure Mk (K : PySem.W.Frag) (C f : Addr) : Prop where
  makes : PySem.W.makesIn K C = true
  init : PySem.W.findIn K (.ref C) "__init__" = some (some (.ref f))
  fn : PySem.W.isFn K (.ref f) = true
  kp : PySem.W.keepIn K (.ref C) = true

theorem run_make {pins : List (Addr × Obj)} {σ : St} {H : Hp} {s : Shared} {Q : VK} {us : List Value} {vs : List V} (M : Mk X.K C f) (F : FnOk X.prog X.w X.K X.mg X.base CX k f fd ps sp) (hr : Room (k + 1) X.A) (hb : Binds X.K fd ps ds) (hd : Vals dvs ds)
    (hx : Passes CX X E) (I : Inv X pins σ H s) (r : Vals vs us)
    (h : ∀ x dx, H x = none → H dx = none → dx ≠ x → sp (.ref x :: (vs ++ dvs)) (upd (upd H dx (.own x)) x (.ins C dx [])) (fun v H2 => v = .non ∧ Q (.ref x) H2) E) :
    wpAny (model X.prog X.w) X.A (call (.ref C) us) (EP X pins σ Q) X.xe s := by
  have hq := h (s.heap.objs.size + 1) s.heap.objs.size (I.hok.fresh (Nat.le_succ _)) (I.hok.fresh (Nat.le_refl _)) (Nat.ne_of_lt (Nat.lt_succ_self _))
  have I2 := Inv.made (C := C) I
  have r2 : Vals (V.ref (s.heap.objs.size + 1) :: (vs ++ dvs)) (Value.ref (s.heap.objs.size + 1) :: (us ++ ds)) := .cons rfl (r.append hd)
  have hl : (Value.ref (s.heap.objs.size + 1) :: us ++ ds).length = ps.length := by
    have e := r2.length
    rw [F.len _ _ _ _ hq] at e
    exact e.symm
  refine wpAny_call (make_map (f := f) I.kIn M.makes M.init (beq_iff_eq.mp M.fn) (codeAny_mono (F.run _ X.stack _ _ ⟨Value.ref (s.heap.objs.size + 1) :: us, []⟩ (Value.ref (s.heap.objs.size + 1) :: (us ++ ds)) _ _ E (hr.make C us [])
    (I2.env0.make C us []) (hb _ (Value.ref (s.heap.objs.size + 1) :: us) I2.kIn hl) r2 hq) fun r s' hq' => ?_))
  cases r with
  | error e => exact hx pins σ _ _ e s' I2 hq'
  | ok fl =>
    cases fl with
    | ret u =>
      obtain ⟨v, H', I3, rv, ev, q3⟩ := I2.after hq'
      subst ev
      exact ⟨rv, ⟨V.ref (s.heap.objs.size + 1), H', I3, rfl, q3⟩⟩
    | next => exact False.elim hq'
    | brk => exact False.elim hq'
    | cont => exact False.elim hq'
theorem pe_make (M : Mk X.K C f) (F : FnOk X.prog X.w X.K X.mg X.base CX k f fd ps sp) (hr : Room (k + 1) X.A) (hg : Gl X x) (hm : X.mg x = some (.ref C)) (hb : Binds X.K fd ps ds) (hd : Vals dvs ds) (hx : Passes CX X E)
    (ha : PA X (e :: es) t) (hdb : (x == ("__debug__" : Str)) = false := by decide) (he : starEach (e :: es) X.env = (false, eval e X.env) :: starEach es X.env := by rfl) (hpl : (backTo pos (starEach es X.env)).any (·.1) = false := by rfl) :
    PE X (.Call (.Name x p) (e :: es) [] pos) (tMake C sp dvs E t) := by
  intro pins s σ H Q I h
  refine wpAny_Call_Name_kw (ld_glob I hg hm ?_ hdb)
  refine PySem.W.callWith_K (h₀ := X.base) I.ok.mod.kin M.kp (thn (ha pos pins s σ H _ I h) fun us s1 ⟨vs, H1, I1, r, q⟩ => ⟨I1.kIn, ?_⟩) he hpl
  exact run_make M F hr hb hd hx I1 r q
theorem pe_make0 (M : Mk X.K C f) (F : FnOk X.prog X.w X.K X.mg X.base CX k f fd ps sp) (hr : Room (k + 1) X.A) (hg : Gl X x) (hm : X.mg x = some (.ref C)) (hb : Binds X.K fd ps ds) (hd : Vals dvs ds) (hx : Passes CX X E)
    (hdb : (x == ("__debug__" : Str)) = false := by decide) : PE X (.Call (.Name x p) [] [] pos) (tMake C sp dvs E tNil) := by
  intro pins s σ H Q I h
  refine wpAny_Call_Name_kw (ld_glob I hg hm ?_ hdb)
  exact PySem.W.callWith_K0 I.kIn M.kp (run_make (us := []) M F hr hb hd hx I .nil h)
end

/-! ### keywords -/
/-- the values of the keywords, from the left -/
def PK (X : Cx) (kws : List Keyword) (t : TA) : Prop :=
  ∀ (pos : Pos) (pins : List (Addr × Obj)) (s : Shared) (σ : St) (H : Hp) (Q : List V → Hp → Prop), Inv X pins σ H s → t σ H Q → wpAny (model X.prog X.w) X.A (evalAll ((backToKw pos (keywordEach kws X.env)).map (·.2))) (AP X pins σ Q) X.xe s
section
variable {X : Cx} {CX : CXT} {k : Nat} {f C : Addr} {fd : FuncData} {ps ks : List Str} {sp : Sp} {E : XK} {x m : Str} {p pos apos kpos : Pos} {e o : Expr} {es : List Expr} {kws : List Keyword} {te ta : TE} {t tk : TA} {nm : Option Str}
theorem pk_nil : PK X [] tNil := fun _ _ _ _ H Q I h => wpAny_evalAll_nil ⟨[], H, I, .nil, h⟩
theorem pk_cons (ha : PE X e te) (hr : PK X kws t) : PK X (⟨nm, e, kpos⟩ :: kws) (tCons te t) := by
  intro pos pins s σ H Q I h
  show wpAny _ _ (evalAll ((do let v ← eval e X.env; standAt pos; pure v) :: (backToKw pos (keywordEach kws X.env)).map (·.2))) _ _ s
  refine wpAny_evalAll_cons (wpAny_bind (thn (ha pins s σ H _ I h) fun u s1 ⟨x, H1, I1, r1, q1⟩ => wpAny_bind (wpAny_standAt (wpAny_pure ?_))))
  exact thn (hr pos pins s1 σ H1 _ I1 q1) fun us s2 ⟨xs, H2, I2, r2, q2⟩ => ⟨x :: xs, H2, I2, .cons r1 r2, q2⟩

/-- how a call with keywords binds: g puts the positional values us and the keywords' values ws (names ks) in the parameters' order, defaults among them -/
structure KBinds (K : PySem.W.Frag) (fd : FuncData) (ps ks : List Str) (g : List Value → List Value → List Value) (gV : List V → List V → List V) : Prop where
  to : ∀ (s : Shared) (us ws : List Value), K.In s.heap → (g us ws).length = ps.length → BindsTo s fd ⟨us, ks.zip ws⟩ (ps.zip (g us ws))
  rel : ∀ {vs : List V} {us : List Value} {zs : List V} {ws : List Value}, Vals vs us → Vals zs ws → Vals (gV vs zs) (g us ws)
def tCallK (sp : Sp) (gV : List V → List V → List V) (E : XK) (t tk : TA) : TE := fun σ H Q => t σ H fun vs H1 => tk σ H1 fun zs H2 => sp (gV vs zs) H2 Q E
variable {g : List Value → List Value → List Value} {gV : List V → List V → List V}
theorem run_fnk {pins : List (Addr × Obj)} {σ : St} {H : Hp} {s : Shared} {Q : VK} {us ws : List Value} {vs zs : List V} (F : FnOk X.prog X.w X.K X.mg X.base CX k f fd ps sp) (hr : Room k X.A) (hb : KBinds X.K fd ps ks g gV) (hx : Passes CX X E)
    (I : Inv X pins σ H s) (r : Vals vs us) (rz : Vals zs ws) (h : sp (gV vs zs) H Q E) : wpAny (model X.prog X.w) X.A (call (.ref f) us (ks.zip ws)) (EP X pins σ Q) X.xe s := by
  have r2 := hb.rel r rz
  have hl : (g us ws).length = ps.length := by rw [← r2.length]; exact F.len _ _ _ _ h
  refine wpAny_call (codeAny_mono (F.run X.A X.stack s H ⟨us, ks.zip ws⟩ (g us ws) (gV vs zs) Q E hr I.env0 (hb.to s us ws I.kIn hl) r2 h) fun r s' hq => ?_)
  cases r with
  | error e => exact hx pins σ H s e s' I hq
  | ok fl =>
    cases fl with
    | ret u => exact I.after hq
    | next => exact False.elim hq
    | brk => exact False.elim hq
    | cont => exact False.elim hq
/-- f(e, .., k = v, ..) -/
theorem pe_callK (F : FnOk X.prog X.w X.K X.mg X.base CX k f fd ps sp) (hr : Room k X.A) (hg : Gl X x) (hm : X.mg x = some (.ref f)) (hk : PySem.W.keepIn X.K (.ref f) = true) (hb : KBinds X.K fd ps ks g gV) (hx : Passes CX X E)
    (ha : PA X (e :: es) t) (hkw : PK X kws tk) (hall : (backToKw pos (keywordEach kws X.env)).all (·.1.isSome) = true := by rfl) (hks : (backToKw pos (keywordEach kws X.env)).filterMap (·.1) = ks := by rfl)
    (hdb : (x == ("__debug__" : Str)) = false := by decide) (he : starEach (e :: es) X.env = (false, eval e X.env) :: starEach es X.env := by rfl)
    (hpl : ((backTo pos (starEach (e :: es) X.env)).any (·.1) || (backToKw pos (keywordEach kws X.env)).any (·.1.isNone)) = false := by rfl) :
    PE X (.Call (.Name x p) (e :: es) kws pos) (tCallK sp gV E t tk) := by
  intro pins s σ H Q I h
  refine wpAny_Call_Name_kw (ld_glob I hg hm ?_ hdb)
  refine PySem.W.callWith_KW (h₀ := X.base) I.ok.mod.kin hk hall (thn (ha pos pins s σ H _ I h) fun us s1 ⟨vs, H1, I1, r, q⟩ => ?_) hpl he
  refine thn (hkw pos pins s1 σ H1 _ I1 q) fun ws s2 ⟨zs, H2, I2, rz, q2⟩ => ⟨I2.kIn, ?_⟩
  rw [hks]
  exact run_fnk F hr hb hx I2 r rz q2
end

/-! ### a def's body keeps its promise -/
/-- names: the parameters first -/
structure FnScope (N P : List Str) (sc : Scope) : Prop where
  kind : sc.kind = .function
  co : sc.isCoroutine = false
  gen : sc.isGenerator = false
  nd : N.Nodup
  pre : N.take P.length = P
  par : ∀ x ∈ P, sc.names.lookup x = some .local ∨ sc.names.lookup x = some .cell
  nofree : ∀ y ∈ sc.names, y.2 ≠ .free

theorem bindL_out {kindOf : Str → Option NameKind} {x : Str} : ∀ {binds : List (Str × Value)} {m : Str → Option Value}, (∀ v, (x, v) ∉ binds) → bindL kindOf binds m x = m x
  | [], _, _ => rfl
  | (n, v) :: r, m, h => by
    unfold bindL
    rw [bindL_out fun w hw => h w (List.mem_cons_of_mem _ hw)]
    split
    · have : x ≠ n := by rintro rfl; exact h v List.mem_cons_self
      simp [this]
    · rfl
theorem bindC_out {kindOf : Str → Option NameKind} {x : Str} : ∀ {binds : List (Str × Value)} {m : Str → Option Value}, (∀ v, (x, v) ∉ binds) → bindC kindOf binds m x = m x
  | [], _, _ => rfl
  | (n, v) :: r, m, h => by
    unfold bindC
    rw [bindC_out fun w hw => h w (List.mem_cons_of_mem _ hw)]
    split
    · rfl
    · have : x ≠ n := by rintro rfl; exact h v List.mem_cons_self
      simp [this]
theorem bindL_get {kindOf : Str → Option NameKind} {x : Str} {v : Value} : ∀ {P : List Str} {vs : List Value} {i : Nat} {m : Str → Option Value}, P.Nodup → P[i]? = some x → vs[i]? = some v → kindOf x = some .local →
    bindL kindOf (P.zip vs) m x = some v
  | [], _, _, _, _, h, _, _ => by simp at h
  | _ :: _, [], _, _, _, _, h, _ => by simp at h
  | p :: P, w :: vs, 0, m, nd, h1, h2, hk => by
    simp at h1 h2; subst h1; subst h2
    show bindL kindOf ((p, w) :: P.zip vs) m p = _
    unfold bindL
    rw [bindL_out fun v hv => (List.nodup_cons.mp nd).1 (List.of_mem_zip hv).1, if_pos hk]
    simp
  | p :: P, w :: vs, i + 1, m, nd, h1, h2, hk => by
    show bindL kindOf ((p, w) :: P.zip vs) m x = _
    unfold bindL
    exact bindL_get (i := i) (List.nodup_cons.mp nd).2 (by simpa using h1) (by simpa using h2) hk
theorem bindC_get {kindOf : Str → Option NameKind} {x : Str} {v : Value} : ∀ {P : List Str} {vs : List Value} {i : Nat} {m : Str → Option Value}, P.Nodup → P[i]? = some x → vs[i]? = some v → kindOf x ≠ some .local →
    bindC kindOf (P.zip vs) m x = some v
  | [], _, _, _, _, h, _, _ => by simp at h
  | _ :: _, [], _, _, _, _, h, _ => by simp at h
  | p :: P, w :: vs, 0, m, nd, h1, h2, hk => by
    simp at h1 h2; subst h1; subst h2
    show bindC kindOf ((p, w) :: P.zip vs) m p = _
    unfold bindC
    rw [bindC_out fun v hv => (List.nodup_cons.mp nd).1 (List.of_mem_zip hv).1, if_neg hk]
    simp
  | p :: P, w :: vs, i + 1, m, nd, h1, h2, hk => by
    show bindC kindOf ((p, w) :: P.zip vs) m x = _
    unfold bindC
    exact bindC_get (i := i) (List.nodup_cons.mp nd).2 (by simpa using h1) (by simpa using h2) hk

/-- the names' values at the entry -/
def start (N : List Str) (vs : List V) : St := vs.map some ++ List.replicate (N.length - vs.length) none

/-- the context of a def's body, at its entry; an exception leaves the frame, then lies as CX says -/
def cxOf (CX : CXT) (P : Program) (w : World) (K : PySem.W.Frag) (mg : Str → Option Value) (base : Heap) (N : List Str) (qual : Str) (scope : Scope) (f : Addr) (cd : Value) (A : Around) (outer : List Env) (s : Shared) (H : Hp) (E : XK) : Cx where
  prog := P
  w := w
  K := K
  mg := mg
  base := base
  A := A.deeper (envOfC qual scope s.heap.objs.size f cd)
  N := N
  s₀ := s
  H₀ := H
  env := envOfC qual scope s.heap.objs.size f cd
  outer := outer
  stack := envOfC qual scope s.heap.objs.size f cd :: outer
  ex := []
  calm := true
  fn := fun _ => true
  pn := []
  xe := fun e s' => wpAny (model P w) (A.deeper (envOfC qual scope s.heap.objs.size f cd)) (leaving (envOfC qual scope s.heap.objs.size f cd) e) (fun _ s'' => CX outer H s E e s'') (fun e' s'' => CX outer H s E e' s'') s'

theorem cell_has {sc : Scope} {n : Nat} {x : Str} (h : sc.names.lookup x = some .cell) : ∃ c, (cellsFrom n sc.names []).lookup x = some c := by
  have q := PySem.W.cellsFrom_some sc.names n [] (.inl h)
  exact Option.isSome_iff_exists.mp q

theorem inv_start {CX : CXT} {P : Program} {w : World} {K : PySem.W.Frag} {mg : Str → Option Value} {base : Heap} {N ps : List Str} {qual : Str} {scope : Scope} {f : Addr} {cd : Value} {A : Around} {outer : List Env} {s s1 : Shared} {H : Hp} {E : XK} {us : List Value} {vs : List V}
    (S : FnScope N ps scope) (hd : A.handled = none) (e0 : Env0 P w K mg base A outer s H) (hl : vs.length = ps.length) (r : Vals vs us)
    (x : InCallC s s.heap.objs.size (bindL (envOfC qual scope s.heap.objs.size f cd).kindOf (ps.zip us) fun _ => none) (cellsFrom (s.heap.objs.size + 1) scope.names []) (bindC (envOfC qual scope s.heap.objs.size f cd).kindOf (ps.zip us) fun _ => none) s1) :
    Inv (cxOf CX P w K mg base N qual scope f cd A outer s H E) [] (start N vs) H s1 := by
  have hpl : ps.length ≤ N.length := by have := congrArg List.length S.pre; rw [List.length_take] at this; omega
  obtain ⟨h1, tk, rfl, hk⟩ := x.done
  have noA : ∀ b : Addr, b ∉ (cxOf CX P w K mg base N qual scope f cd A outer s H E).ex := fun b z => absurd (show b ∈ ([] : List Addr) from z) (by simp)
  refine ⟨⟨e0.mod, S.kind, rfl, rfl, Nat.le_refl _, fun y z c h1 h2 => ?_, fun y hy => ?_, fun y c _ h => ?_, fun _ => hd, Around.frames_deeper e0.frames, .inr ⟨rfl, rfl⟩, fun b z => absurd z (noA b), e0.bs, e0.bsz, fun b _ _ => noA b, fun b z => absurd z (noA b), e0.funs, e0.frf⟩,
    rfl, e0.bare, Un.kept hk, ⟨_, x.toInCall.ns, fun i y v h1 h2 h3 => ?_⟩, fun y c h => ⟨_, x.cell y c h⟩, e0.hok.fresh (Nat.le_refl _), fun y c h => ?_, fun p hp => absurd (show p ∈ ([] : List (Addr × Obj)) from hp) (by simp), e0.hok.kept hk, ?_⟩
  · exact name_of_addr x.apart (PySem.mem_of_lookup h1) (PySem.mem_of_lookup h2)
  · have hy : scope.names.lookup y = some .cell ∨ scope.names.lookup y = some .free := hy
    rcases hy with hy | hy
    · exact cell_has hy
    · exact absurd rfl (S.nofree _ (PySem.mem_of_lookup hy))
  · exact Nat.le_of_lt (x.above y c (PySem.mem_of_lookup h))
  · have hi : i < vs.length := by
      unfold start at h2
      by_cases hi : i < vs.length
      · exact hi
      · rw [List.getElem?_append_right (by simpa using hi)] at h2
        rw [List.getElem?_replicate] at h2
        split at h2 <;> cases h2
    have ha : vs[i]? = some v := by
      unfold start at h2
      rw [List.getElem?_append_left (by simpa using hi), List.getElem?_map] at h2
      cases e : vs[i]? with
      | none => rw [e] at h2; cases h2
      | some a => rw [e] at h2; cases h2; rfl
    obtain ⟨u, hu, rv⟩ := r.get ha
    have hp : ps[i]? = some y := by
      rw [← S.pre, List.getElem?_take_of_lt (by omega)]; exact h1
    have ndP : ps.Nodup := by rw [← S.pre]; exact S.nd.sublist (List.take_sublist _ _)
    refine ⟨u, rv, ?_⟩
    rcases S.par y (List.mem_of_getElem? hp) with k | k
    · exact .inl ⟨k, bindL_get ndP hp hu k⟩
    · obtain ⟨c, e⟩ := cell_has (n := s.heap.objs.size + 1) k
      refine .inr ⟨.inl k, c, e, ?_⟩
      have q := x.cell y c e
      rw [bindC_get ndP hp hu (by show scope.names.lookup y ≠ _; rw [k]; decide)] at q
      exact q
  · exact e0.hok.fresh (Nat.le_of_lt (x.above y c (PySem.mem_of_lookup h)))
  · unfold start
    show _ = N.length
    rw [List.length_append, List.length_map, List.length_replicate]
    omega

/-- THE RULE: a def (or a method) of the text, by its body. The body's reading t is chosen for each entry; it is run at the parameters' values -/
theorem fn_of {CX : CXT} {P : Program} {w : World} {K : PySem.W.Frag} {mg : Str → Option Value} {base : Heap} {k : Nat} {f : Addr} {name qual : Str} {params : Arguments} {body : List Stmt} {scope : Scope} {dV kV doc pm cdv ct oc : Value} {an od : Option Addr}
    {osl : Array (Option Value)} {N ps : List Str} {sp : Sp} (lk : K.lookup f = some ⟨oc, od, .func (PySem.W.fnOf name qual params body scope dV kV doc pm an cdv ct), osl⟩) (hcd : PySem.W.codeIn K cdv qual = true) (S : FnScope N ps scope)
    (len : ∀ vs H Q E, sp vs H Q E → vs.length = ps.length)
    (hbody : ∀ (A : Around) (outer : List Env) (s : Shared) (H : Hp) (vs : List V) (Q : VK) (E : XK), Room k (A.deeper (envOfC qual scope s.heap.objs.size f cdv)) → sp vs H Q E →
      ∃ t, PSs (cxOf CX P w K mg base N qual scope f cdv A outer s H E) body t ∧ t { nx := fun _ H' => Q .non H', rt := Q } (start N vs) H) :
    FnOk P w K mg base CX (k + 1) f (PySem.W.fnOf name qual params body scope dV kV doc pm an cdv ct) ps sp := by
  refine ⟨len, fun A outer s H args us vs Q E hr e0 hb r hsp => ?_⟩
  have hl := len _ _ _ _ hsp
  have KX : K.In s.heap := e0.mod.kin.keeps fun b o e => (e0.bs b o e).1
  have lim : s.heap.NoLimit := e0.mod.nolimit.keeps fun b o e => (e0.bs b o e).1
  have hkind : ∀ y ∈ ps.zip us, scope.names.lookup y.1 = some .local ∨ (scope.names.lookup y.1 = some .cell ∧ ((cellsFrom (s.heap.objs.size + 1) scope.names []).lookup y.1).isSome = true) := fun ⟨n, v⟩ hy => by
    rcases S.par n (List.of_mem_zip hy).1 with q | q
    · exact .inl q
    · exact .inr ⟨q, PySem.W.cellsFrom_some _ _ _ (.inl q)⟩
  refine codeAny_call_function hr.depth (KX _ _ lk) rfl S.co S.gen rfl (PySem.W.codeRec_of KX hcd) (hb _ _ _ _ ?_)
  refine wpAny_newFunctionEnv_cells S.kind hkind fun env he s1 x => ?_
  subst he
  refine ⟨lim.keeps x.toInCall.keep, codeAny_func ?_⟩
  obtain ⟨t, ht, hq⟩ := hbody A outer s H vs Q E (hr.deeper _) hsp
  have I : Inv (cxOf CX P w K mg base N qual scope f cdv A outer s H E) [] (start N vs) H s1 := inv_start S hr.hd e0 hl r x
  refine wpAny_mono (ht [] s1 (start N vs) H _ I hq) (fun fl s' hs => ?_) fun e s' hs => hs
  have fin : ∀ {σ' : St} {H' : Hp} {v : V} {u : Value}, Inv (cxOf CX P w K mg base N qual scope f cdv A outer s H E) [] σ' H' s' → RelV v u → Q v H' → CE outer P w H s Q u s' :=
    fun {σ' H' v u} J rv q => ⟨v, H', J.os, J.bare, J.base, J.hok, rv, q⟩
  cases fl with
  | ret u =>
    obtain ⟨v, σ', H', J, rv, q⟩ := hs
    exact fin J rv q
  | next =>
    obtain ⟨σ', H', J, q⟩ := hs
    exact fin (v := V.non) (u := Value.none) J rfl q
  | brk =>
    obtain ⟨_, _, _, q⟩ := hs
    exact False.elim q
  | cont =>
    obtain ⟨_, _, _, q⟩ := hs
    exact False.elim q
end L2

namespace L2
open PySem PySem.Spec PyProof.Rows
section
variable {X : Cx} {x : Str} {p pos : Pos} {e : Expr} {es : List Expr} {t : TA} {id T : String} {r : List V → Hp → VK → Prop}

def tCB (r : List V → Hp → VK → Prop) (t : TA) : TE := fun σ H Q => t σ H fun vs H1 => r vs H1 Q
/-- f(e, ..), f a built-in function -/
theorem pe_callB (hc : CallR X (.builtin id) r) (hg : Gl X x) (hm : X.mg x = none) (hv : bootBuiltins x = some (.builtin id)) (ha : PA X (e :: es) t) (hn : x ≠ "__name__" := by decide) (hdb : (x == ("__debug__" : Str)) = false := by decide)
    (he : starEach (e :: es) X.env = (false, eval e X.env) :: starEach es X.env := by rfl) (hpl : (backTo pos (starEach es X.env)).any (·.1) = false := by rfl) : PE X (.Call (.Name x p) (e :: es) [] pos) (tCB r t) := by
  intro pins s σ H Q I h
  refine wpAny_Call_Name_kw (ld_blt I hg hm hv ?_ hn hdb)
  exact PyProof.Rows.callWith_builtin1 (thn (ha pos pins s σ H _ I h) fun us s1 ⟨vs, H1, I1, r1, q1⟩ => hc pins s1 σ H1 vs us Q I1 r1 q1) he hpl
/-- T(e, ..), T a built-in type -/
theorem pe_callTy (hc : CallR X (.type T) r) (hg : Gl X x) (hm : X.mg x = none) (hv : bootBuiltins x = some (.type T)) (ha : PA X (e :: es) t) (hn : x ≠ "__name__" := by decide) (hdb : (x == ("__debug__" : Str)) = false := by decide)
    (he : starEach (e :: es) X.env = (false, eval e X.env) :: starEach es X.env := by rfl) (hpl : (backTo pos (starEach es X.env)).any (·.1) = false := by rfl) : PE X (.Call (.Name x p) (e :: es) [] pos) (tCB r t) := by
  intro pins s σ H Q I h
  refine wpAny_Call_Name_kw (ld_blt I hg hm hv ?_ hn hdb)
  exact PyProof.Rows.callWith_type1 (thn (ha pos pins s σ H _ I h) fun us s1 ⟨vs, H1, I1, r1, q1⟩ => hc pins s1 σ H1 vs us Q I1 r1 q1) he hpl
/-- T() -/
theorem pe_callTy0 (hc : CallR X (.type T) r) (hg : Gl X x) (hm : X.mg x = none) (hv : bootBuiltins x = some (.type T)) (hn : x ≠ "__name__" := by decide) (hdb : (x == ("__debug__" : Str)) = false := by decide) :
    PE X (.Call (.Name x p) [] [] pos) (tCB r tNil) := by
  intro pins s σ H Q I h
  refine wpAny_Call_Name_kw (ld_blt I hg hm hv ?_ hn hdb)
  exact PyProof.Rows.callWith_type0 (hc pins s σ H [] [] Q I .nil h)
end
end L2

namespace HT
open PySem PyProof.Rows

/-- t < u of tuples of ints -/
def lexLt : List Int → List Int → Bool
  | [], [] => false
  | [], _ :: _ => true
  | _ :: _, [] => false
  | x :: xs, y :: ys => if x = y then lexLt xs ys else decide (x < y)
theorem lexLt_cons (x y : Int) (xs ys : List Int) : lexLt (x :: xs) (y :: ys) = if x = y then lexLt xs ys else decide (x < y) := rfl
theorem lexLt_nil_nil : lexLt [] [] = false := rfl
theorem lexLt_nil_cons (y : Int) (ys : List Int) : lexLt [] (y :: ys) = true := rfl
theorem lexLt_cons_nil (x : Int) (xs : List Int) : lexLt (x :: xs) [] = false := rfl

theorem eqAt_int (A : Around) (s : Shared) (a : Int) (t : Tok) (c : Int) (u : Tok) : ∃ e, SeqAt.EqAt A s (.int a t) (.int c u) e ∧ (e = true ↔ a = c) :=
  ⟨(a == c), SeqAt.EqAt.int_int a t c u, by simp⟩
theorem rcLt_int (A : Around) (s : Shared) (a : Int) (t : Tok) (c : Int) (u : Tok) (prog : Program) (w : World) (E : Value → Shared → Prop) (Q : Value → Shared → Prop) (h : Q (.bool (decide (a < c))) s) :
    wpAny (model prog w) A (richCompare .Lt (.int a t) (.int c u)) Q E s :=
  (PyProof.Rows.lt_int h : wpAny (model prog w) A (compareOp .Lt (.int a t) (.int c u)) Q E s)

section
open PySem.SeqAt
open PySem.AutoSeq1 (wpAny_loadPart')
open PySem.MeetsSeq PySem.MeetsSeq2 PySem.MeetsSeq3

theorem tuple_lt_ints (l b : Addr) (items items2 : Array Value) (n n2 : Nat) (dd dd2 : Option Addr) (sl sl2 : Array (Option Value)) (ns ms : List Int) (hi : IntsAre items.toList ns) (hj : IntsAre items2.toList ms) :
    Meets (Builtin.«tuple.__lt__» ⟨[.ref l, .ref b], []⟩)
      (fun _ R s => s.heap.get? l = some { cls := .type "tuple", dict := dd, data := .seq items n, slots := sl } ∧ s.heap.get? b = some { cls := .type "tuple", dict := dd2, data := .seq items2 n2, slots := sl2 } ∧
        R (.ok (.ret (.bool (lexLt ns ms)))) s) :=
  .of_wp fun prog w A R s h => by
    obtain ⟨hp, g, d, tk, os⟩ := s; obtain ⟨hl, hb, h⟩ := h
    have f2 := AutoSeq1.sub_tuple_tuple
    have z1 : items.size = ns.length := by rw [← hi.length]; simp
    have z2 : items2.size = ms.length := by rw [← hj.length]; simp
    wp_walk using wpAny_loadPart' hl, wpAny_loadPart' hb, wpAny_forIn_list _ (fun rest b s' => b.1 = none ∧ s' = ⟨hp, g, d, tk, os⟩ ∧ ∃ (vs ws : List Value) (ns' ms' : List Int), rest = vs.zip ws ∧
      IntsAre vs ns' ∧ IntsAre ws ms' ∧ ns'.length + items2.size = ms'.length + items.size ∧ R (.ok (.ret (.bool (lexLt ns' ms')))) ⟨hp, g, d, tk, os⟩) _
    case turn =>
      rintro ⟨y, x⟩ rest b s' ⟨hb', rfl, vs, ws, ns', ms', hz, hvi, hwi, hlen, hR⟩
      cases hvi with
      | nil => rw [List.zip_nil_left] at hz; cases hz
      | cons a t hvi' =>
        cases hwi with
        | nil => rw [List.zip_nil_right] at hz; cases hz
        | cons c u hwi' =>
          rw [List.zip_cons_cons] at hz
          injection hz with hyx hrest
          injection hyx with hy hx
          subst hy hx
          rw [lexLt_cons] at hR
          simp only [List.length_cons] at hlen
          obtain ⟨e, he, hiff⟩ := eqAt_int A.in1 ⟨hp, g, d, tk, os⟩ a t c u
          refine wpAny_bind (he prog w _ _ ?_)
          cases e with
          | true =>
            rw [if_pos (hiff.mp rfl)] at hR
            wp_walk
            exact ⟨rfl, rfl, _, _, _, _, hrest, hvi', hwi', by omega, hR⟩
          | false =>
            rw [if_neg (fun q => absurd (hiff.mpr q) Bool.false_ne_true)] at hR
            have hri := rcLt_int A.in1 ⟨hp, g, d, tk, os⟩ a t c u prog w
            wp_walk using hri
            exact ⟨_, rfl, by simpa using hR⟩
    case fin =>
      rintro ⟨b1, b2⟩ s' ⟨hb', rfl, vs, ws, ns', ms', hz, hvi, hwi, hlen, hR⟩
      simp only at hb'
      subst hb'
      have hv : lexLt ns' ms' = decide (items.size < items2.size) := by
        cases hvi with
        | nil =>
          cases hwi with
          | nil =>
            simp only [List.length_nil] at hlen
            rw [lexLt_nil_nil]
            exact (decide_eq_false (by omega)).symm
          | cons c u hw =>
            simp only [List.length_nil, List.length_cons] at hlen
            rw [lexLt_nil_cons]
            exact (decide_eq_true (by omega)).symm
        | cons a t hv =>
          cases hwi with
          | nil =>
            simp only [List.length_nil, List.length_cons] at hlen
            rw [lexLt_cons_nil]
            exact (decide_eq_false (by omega)).symm
          | cons c u hw =>
            rw [List.zip_cons_cons] at hz
            cases hz
      rw [hv] at hR
      wp_walk
      exact ⟨_, rfl, by simpa [Builtin.Tuple.tupleCompareSizes] using hR⟩
    case h =>
      exact ⟨rfl, rfl, items.toList, items2.toList, ns, ms, rfl, hi, hj, by omega, h⟩
end

section
variable {prog : Program} {w : World} {A : Around} {E : Value → Shared → Prop} {s : Shared}

theorem lt_tupInts {l b : Addr} {items items2 : Array Value} {ns ms : List Int} {Q : Value → Shared → Prop} (hl : IsTup s.heap l items) (hb : IsTup s.heap b items2) (hi : IntsAre items.toList ns) (hj : IntsAre items2.toList ms)
    (hu : A.units < cLine) (h : Q (.bool (lexLt ns ms)) s) : wpAny (model prog w) A (compareOp .Lt (.ref l) (.ref b)) Q E s := by
  obtain ⟨⟨cls, dd, data, sl⟩, ho, hc, n, hd⟩ := id hl
  obtain ⟨⟨cls2, dd2, data2, sl2⟩, ho2, hc2, n2, hd2⟩ := id hb
  simp only at hc hd hc2 hd2
  subst hc hd hc2 hd2
  exact richCompare_meets_room (op := .Lt) ⟨_, ho, rfl⟩ ⟨_, ho2, rfl⟩ PySem.F.slot_tuple_lt PySem.F.entry_tuple_lt (PySem.F.args_tuple_lt_2 _ _) (tuple_lt_ints l b items items2 n n2 dd dd2 sl sl2 ns ms hi hj)
    ⟨ho, ho2, show Value.bool (lexLt ns ms) ≠ Value.notImplemented ∧ Q (.bool (lexLt ns ms)) s from ⟨(fun x => nomatch x), h⟩⟩ hu

/-- t + u, t not empty -/
theorem cat_tup {t b : Addr} {vs ws : List Value} {Q : Value → Shared → Prop} (ht : IsTup s.heap t vs.toArray) (hb : IsTup s.heap b ws.toArray) (hv : vs ≠ [])
    (h1 : ws = [] → Q (.ref t) s) (h2 : ws ≠ [] → Q (.ref s.heap.objs.size) { s with heap := s.heap.push { cls := .type "tuple", data := .seq (vs ++ ws).toArray } })
    (hsz : vs.length + ws.length ≤ sizeLine) : wpAny (model prog w) A (binaryOp .Add (.ref t) (.ref b)) Q E s := by
  obtain ⟨⟨cls, dd, data, sl⟩, ho, hc, n, hd⟩ := id ht
  obtain ⟨⟨cls2, dd2, data2, sl2⟩, ho2, hc2, n2, hd2⟩ := id hb
  simp only at hc hd hc2 hd2
  subst hc hd hc2 hd2
  have e : vs.toArray ++ ws.toArray = (vs ++ ws).toArray := by simp
  by_cases hw : ws = []
  · exact concat_meets ⟨_, ho, rfl⟩ ⟨_, ho2, rfl⟩ noFill_tuple_add seq_tuple_add PySem.F.slot_tuple_add PySem.F.entry_tuple_add (PySem.F.args_tuple_add_2 _ _)
      (tuple_addW1 t b vs.toArray ws.toArray n n2 dd dd2 sl sl2 (by simpa using hv) (by simp [hw])) ⟨ho, ho2, h1 hw⟩
  · refine concat_meets ⟨_, ho, rfl⟩ ⟨_, ho2, rfl⟩ noFill_tuple_add seq_tuple_add PySem.F.slot_tuple_add PySem.F.entry_tuple_add (PySem.F.args_tuple_add_2 _ _)
      (tuple_addW2 t b vs.toArray ws.toArray n n2 dd dd2 sl sl2 (by simpa using hv) (by simpa using hw) (by rw [List.size_toArray, List.size_toArray]; exact hsz)) ⟨ho, ho2, ?_⟩
    rw [e]
    exact h2 hw

/-! ### t[a:b], not the whole -/
/-- a slice's bound as a place among n (d where it is left out) -/
def sIx (n d : Nat) : Option Int → Nat
  | none => d
  | some v => if v < 0 then (v + (n : Int)).toNat else min v.toNat n
theorem sIx_none (n d : Nat) : sIx n d none = d := rfl
theorem sIx_nat (n d k : Nat) : sIx n d (some (k : Int)) = min k n := by
  show (if (k : Int) < 0 then ((k : Int) + (n : Int)).toNat else min (k : Int).toNat n) = min k n
  rw [if_neg (by omega), Int.toNat_natCast]
theorem sIx_le (n d : Nat) (hd : d ≤ n) (o : Option Int) : sIx n d o ≤ n := by
  cases o with
  | none => exact hd
  | some v =>
    show (if v < 0 then (v + (n : Int)).toNat else min v.toNat n) ≤ n
    by_cases hv : v < 0
    · rw [if_pos hv]; omega
    · rw [if_neg hv]; exact Nat.min_le_right _ _
theorem clip_eq (v : Int) (n d : Nat) : (if v < 0 then max (v + (n : Int)) 0 else min v (n : Int)) = ((sIx n d (some v) : Nat) : Int) := by
  show (if v < 0 then max (v + (n : Int)) 0 else min v (n : Int)) = (((if v < 0 then (v + (n : Int)).toNat else min v.toNat n) : Nat) : Int)
  by_cases hv : v < 0
  · simp only [if_pos hv]; omega
  · simp only [if_neg hv]; omega
theorem adjust_gen (lo hi : Option Int) (n : Nat) : Builtin.Slice.sliceAdjust lo hi 1 (n : Int) = (((sIx n 0 lo : Nat) : Int), ((sIx n n hi : Nat) : Int)) := by
  have h1 : ¬ ((1 : Int) < 0) := by omega
  unfold Builtin.Slice.sliceAdjust
  simp only [h1, if_false]
  refine Prod.ext ?_ ?_
  · cases lo with
    | none => rfl
    | some v => exact clip_eq v n 0
  · cases hi with
    | none => rfl
    | some v => exact clip_eq v n n
theorem places_gen (i j : Nat) : Builtin.Slice.slicePlaces (i : Int) (j : Int) 1 = j - i := by
  unfold Builtin.Slice.slicePlaces
  have h1 : (1 : Int) > 0 := by omega
  simp only [h1, if_true, Int.ediv_one]
  split <;> omega
theorem slicePart_ {v : Value} {o : Option Int} {Q : Option Int → Shared → Prop} (p : IsPart v o) (h : Q o s) : wpAny (model prog w) A (Builtin.Slice.slicePartIndex v) Q E s := by
  cases p with
  | none => exact slicePart_none h
  | int i t => exact slicePart_int h
theorem sliceApplied_gen {sl : Addr} {vl vu : Value} {lo hi : Option Int} {n : Nat} {Q : Int × Int × Nat → Shared → Prop} (hs : s.heap.IsSliceOf sl vl vu .none) (pl : IsPart vl lo) (pu : IsPart vu hi)
    (h : Q (((sIx n 0 lo : Nat) : Int), 1, sIx n n hi - sIx n 0 lo) s) : wpAny (model prog w) A (Builtin.Slice.sliceApplied (.ref sl) (pure (n : Int))) Q E s := by
  obtain ⟨os, hos, hcs, hds⟩ := id hs
  unfold Builtin.Slice.sliceApplied Builtin.Slice.sliceFields
  refine wpAny_bind (wpAny_bind (wpAny_field hos hds (x := vl) rfl (wpAny_bind (wpAny_field hos hds (x := vu) rfl (wpAny_bind (wpAny_field hos hds (x := .none) rfl (wpAny_pure ?_)))))))
  refine wpAny_bind (slicePart_none ?_)
  show wpAny _ _ (if ((1 : Int) == 0) = true then _ else _) _ _ s
  rw [if_neg (by decide)]
  refine wpAny_bind (slicePart_ pl (wpAny_bind (slicePart_ pu (wpAny_bind (wpAny_pure ?_)))))
  show wpAny _ _ (match Builtin.Slice.sliceAdjust lo hi 1 (n : Int) with | (lo, hi) => pure (lo, (1 : Int), Builtin.Slice.slicePlaces lo hi 1)) _ _ s
  rw [adjust_gen lo hi n]
  show wpAny _ _ (pure (((sIx n 0 lo : Nat) : Int), (1 : Int), Builtin.Slice.slicePlaces ((sIx n 0 lo : Nat) : Int) ((sIx n n hi : Nat) : Int) 1)) _ _ s
  rw [places_gen]
  exact wpAny_pure h
theorem pick_gen (xs : Array Value) (i k : Nat) : ((List.range k).filterMap fun (m : Nat) => xs[((i : Int) + (m : Int) * 1).toNat]?).toArray = ((xs.toList.drop i).take k).toArray := by
  have e : (fun (m : Nat) => xs[((i : Int) + (m : Int) * 1).toNat]?) = fun m => xs[i + m]? := by
    funext m
    have : ((i : Int) + (m : Int) * 1).toNat = i + m := by omega
    rw [this]
  rw [e]
  have := pick_run xs i k
  rw [List.filterMap_map] at this
  have e2 : ((fun x => xs[x]?) ∘ fun x => i + x) = fun m => xs[i + m]? := rfl
  rw [e2] at this
  rw [this]

theorem getItem_tuple_cut {t sl : Addr} {items : Array Value} {vl vu : Value} {lo hi : Option Int} {Q : Value → Shared → Prop} (ht : IsTup s.heap t items) (hs : s.heap.IsSliceOf sl vl vu .none) (pl : IsPart vl lo) (pu : IsPart vu hi)
    (hw : ¬ (sIx items.size 0 lo = 0 ∧ sIx items.size items.size hi = items.size))
    (h : Q (.ref s.heap.objs.size) { s with heap := s.heap.push { cls := .type "tuple", data := .seq ((items.toList.drop (sIx items.size 0 lo)).take (sIx items.size items.size hi - sIx items.size 0 lo)).toArray } })
    (hsz : items.size ≤ sizeLine) : wpAny (model prog w) A (getItem (.ref t) (.ref sl)) Q E s := by
  have htake : sizeOk (.seq ((items.toList.drop (sIx items.size 0 lo)).take (sIx items.size items.size hi - sIx items.size 0 lo)).toArray) := by
    show ((items.toList.drop (sIx items.size 0 lo)).take (sIx items.size items.size hi - sIx items.size 0 lo)).toArray.size ≤ sizeLine
    rw [List.size_toArray, List.length_take, List.length_drop, Array.length_toList]
    omega
  have hj : sIx items.size items.size hi ≤ items.size := sIx_le _ _ (Nat.le_refl _) hi
  obtain ⟨os, hos, hcs, hds⟩ := id hs
  have hTs : s.TypeIs (.ref sl) "slice" := ⟨os, hos, hcs⟩
  unfold getItem
  try with_reducible refine wpAny_holding ?_
  first | refine wpAny_bind (wpAny_pure ?_) | skip
  refine wpAny_bind (wpAny_sequenceKey ht.typeIs (by decide) ?_)
  refine wpAny_bind (wpAny_callSpecial?_slot (name := Str.ofString "__getitem__") ht.typeIs PyProof.Rows.slot_tuple_getitem
    (wpAny_call_entry PyProof.Rows.slot_tuple_getitem ht.typeIs entry_tuple_getitem ?_ (args_tuple_getitem _ _)))
  show wpAny _ _ (Builtin.Tuple.tupleItemsOf (.ref t) >>= _) _ _ s
  refine wpAny_bind (tupleItemsOf_ ht ?_)
  refine wpAny_bind (wpAny_typeOf hTs ?_)
  rw [if_pos (by decide)]
  refine wpAny_bind (sliceApplied_gen hs pl pu ?_)
  have hno : ¬ ((((sIx items.size 0 lo : Nat) : Int) == 0 && (1 : Int) == 1 && (sIx items.size items.size hi - sIx items.size 0 lo) == items.size) = true) := by
    intro q
    rw [Bool.and_eq_true, Bool.and_eq_true] at q
    have q1 : ((sIx items.size 0 lo : Nat) : Int) = 0 := eq_of_beq q.1.1
    have q2 : sIx items.size items.size hi - sIx items.size 0 lo = items.size := eq_of_beq q.2
    exact hw ⟨by omega, by omega⟩
  show wpAny _ _ (if (((sIx items.size 0 lo : Nat) : Int) == 0 && (1 : Int) == 1 && (sIx items.size items.size hi - sIx items.size 0 lo) == items.size) = true then _ else _) _ _ s
  rw [if_neg hno, pick_gen]
  first
    | exact wpAny_bind (m := Builtin.Tuple.tupleExact _) (wpAny_newObj_type (wpAny_pure ⟨_, rfl, wpAny_pure h⟩) htake)
    | exact wpAny_bind (m := Builtin.Tuple.tupleExact _) (wpAny_newObj_type (wpAny_bind (wpAny_pure (wpAny_pure ⟨_, rfl, wpAny_pure h⟩))) htake)
    | exact wpAny_bind (wpAny_bind (m := Builtin.Tuple.tupleExact _) (wpAny_newObj_type (wpAny_pure (wpAny_pure ⟨_, rfl, wpAny_pure h⟩)) htake))
    | exact wpAny_bind (wpAny_bind (m := Builtin.Tuple.tupleExact _) (wpAny_newObj_type (wpAny_pure ⟨_, rfl, wpAny_pure h⟩) htake))
end
end HT

namespace L2
open PySem PySem.Spec PyProof.Rows

/-! ### the parts of a slice -/
abbrev TO := St → Hp → (Option Int → Hp → Prop) → Prop
/-- a slice's part (left out, or an int) -/
def PO (X : Cx) (e : Option Expr) (t : TO) : Prop :=
  ∀ (pins : List (Addr × Obj)) (s : Shared) (σ : St) (H : Hp) (Q : Option Int → Hp → Prop), Inv X pins σ H s → t σ H Q →
    wpAny (model X.prog X.w) X.A (evalPart e X.env) (fun u s' => ∃ o H', Inv X pins σ H' s' ∧ IsPart u o ∧ Q o H') X.xe s
def tNoPart : TO := fun _ H Q => Q none H
def tPart (t : TE) : TO := fun σ H Q => t σ H fun x H1 => ∃ i, x = .int i ∧ Q (some i) H1

theorem intsAre_of {ns : List Int} : ∀ {us : List Value}, Vals (ns.map V.int) us → IntsAre us ns := by
  induction ns with
  | nil => intro us r; rw [List.map_nil] at r; cases r; exact .nil
  | cons n ns ih =>
    intro us r
    rw [List.map_cons] at r
    cases r with
    | cons r1 r2 =>
      obtain ⟨t, e⟩ := r1
      subst e
      exact .cons n t (ih r2)

section
variable {X : Cx} {e : Expr} {te : TE} {lo hi : Option Expr} {tl th : TO} {pos p2 : Pos}

theorem po_none : PO X none tNoPart := by
  intro pins s σ H Q I h
  rw [evalPart_none]
  exact wpAny_pure ⟨none, H, I, .none, h⟩
theorem po_some (h : PE X e te) : PO X (some e) (tPart te) := by
  intro pins s σ H Q I hw
  rw [evalPart_some]
  refine thn (h pins s σ H _ I hw) fun u s1 ⟨x, H1, I1, r1, q1⟩ => ?_
  obtain ⟨i, rfl, q⟩ := q1
  obtain ⟨t, rfl⟩ := r1
  exact ⟨some i, H1, I1, .int i t, q⟩

/-- what a slice of a value is, by values: the slice object stands at sl -/
def SlR (X : Cx) (r : V → Option Int → Option Int → Hp → VK → Prop) : Prop :=
  ∀ (pins : List (Addr × Obj)) (s : Shared) (σ : St) (H : Hp) (x : V) (v vl vu : Value) (lo hi : Option Int) (sl : Addr) (Q : VK), Inv X pins σ H s → RelV x v → s.heap.IsSliceOf sl vl vu .none → IsPart vl lo → IsPart vu hi → r x lo hi H Q →
    ∃ T id, typeLookup (.type T) "__getitem__" = pure (some (.builtin id)) ∧ s.TypeIs v T ∧ wpAny (model X.prog X.w) X.A (getItem v (.ref sl)) (EP X pins σ Q) X.xe s
theorem SlR.or {r r' : V → Option Int → Option Int → Hp → VK → Prop} (h : SlR X r) (h' : SlR X r') : SlR X (fun x lo hi H Q => r x lo hi H Q ∨ r' x lo hi H Q) := by
  intro pins s σ H x v vl vu lo hi sl Q I rx hs pl pu q
  rcases q with q | q
  · exact h pins s σ H x v vl vu lo hi sl Q I rx hs pl pu q
  · exact h' pins s σ H x v vl vu lo hi sl Q I rx hs pl pu q
def tSl (r : V → Option Int → Option Int → Hp → VK → Prop) (te : TE) (tl th : TO) : TE := fun σ H Q => te σ H fun x H1 => tl σ H1 fun l H2 => th σ H2 fun u H3 => r x l u H3 Q
/-- a[lo:hi], any a -/
theorem pe_slice {r : V → Option Int → Option Int → Hp → VK → Prop} (hr : SlR X r) (he : PE X e te) (hl : PO X lo tl) (hu : PO X hi th) : PE X (.Subscript e (.Slice lo hi none p2) pos) (tSl r te tl th) := by
  intro pins s σ H Q I h
  refine Subscript_ (thn (he pins s σ H _ I h) fun v s1 ⟨x, H1, I1, r1, q1⟩ => ?_)
  refine wpAny_Slice (thn (hl pins s1 σ H1 _ I1 q1) fun vl s2 ⟨l, H2, I2, pl, q2⟩ => thn (hu pins s2 σ H2 _ I2 q2) fun vu s3 ⟨u, H3, I3, pu, q3⟩ => ?_)
  rw [evalPart_none]
  refine wpAny_pure ?_
  have I4 : Inv X pins σ H3 { s3 with heap := s3.heap.push { cls := .type "slice", data := .fields #[vl, vu, .none] } } := I3.kept (t' := s3.toks) fun b ob q => Heap.get?_push_of_some _ q
  obtain ⟨T, id, hT, ht, hg⟩ := hr pins { s3 with heap := s3.heap.push { cls := .type "slice", data := .fields #[vl, vu, .none] } } σ H3 x v vl vu l u s3.heap.objs.size Q I4 r1 (Heap.IsSliceOf.new ..) pl pu q3
  show wpAny (model X.prog X.w) X.A (subscriptTail e (.Slice lo hi none p2) v (.ref s3.heap.objs.size)) (EP X pins σ Q) X.xe { s3 with heap := s3.heap.push { cls := .type "slice", data := .fields #[vl, vu, .none] } }
  exact tail_any (ops := [.ref s3.heap.objs.size, v]) ht hT hg (by with_unfolding_all rfl)

/-- the items of xs[lo:hi] -/
def cutV (xs : List V) (lo hi : Option Int) : List V := (xs.drop (HT.sIx xs.length 0 lo)).take (HT.sIx xs.length xs.length hi - HT.sIx xs.length 0 lo)
theorem cutV_length (xs : List V) (lo hi : Option Int) : (cutV xs lo hi).length ≤ xs.length := by
  unfold cutV
  rw [List.length_take, List.length_drop]
  omega
/-- t[lo:hi], not the whole of it (the whole would be t itself) -/
def rSlT (K : PySem.W.Frag) : V → Option Int → Option Int → Hp → VK → Prop := fun x lo hi H Q => ∃ a xs, x = .ref a ∧ SqT K H a xs ∧
  ¬ (HT.sIx xs.length 0 lo = 0 ∧ HT.sIx xs.length xs.length hi = xs.length) ∧ ∀ p, H p = none → Q (.ref p) (upd H p (.tup (cutV xs lo hi)))
theorem sl_tup : SlR X (rSlT X.K) := by
  intro pins s σ H x v vl vu lo hi sl Q I rx hs pl pu h
  obtain ⟨a, xs, rfl, hx, hw, q⟩ := h
  cases rx
  obtain ⟨its, r, ht, hz⟩ := I.tuple hx
  have hlen : its.toArray.size = xs.length := by rw [List.size_toArray]; exact r.length.symm
  refine ⟨"tuple", _, PyProof.Rows.slot_tuple_getitem.lookup, ht.typeIs, ?_⟩
  refine HT.getItem_tuple_cut ht hs pl pu (by rw [hlen]; exact hw) ?_ (by rw [hlen]; exact hz)
  rw [hlen]
  refine ⟨.ref s.heap.objs.size, _, I.laid (t' := s.toks) (o := .tup (cutV xs lo hi)) (fun b ob q => Heap.get?_push_of_some _ q) (Nat.le_refl _) ?_, rfl, q _ (I.hok.fresh (Nat.le_refl _))⟩
  exact ⟨Nat.le_trans (cutV_length xs lo hi) hz, _, (r.drop (HT.sIx xs.length 0 lo)).take (HT.sIx xs.length xs.length hi - HT.sIx xs.length 0 lo), IsTup.new _ _⟩

/-! ### t < u, t + u -/
def rLtT (K : PySem.W.Frag) : R2 := fun x y H Q => ∃ a b ns ms, x = .ref a ∧ y = .ref b ∧ SqT K H a (ns.map V.int) ∧ SqT K H b (ms.map V.int) ∧ Q (.bl (HT.lexLt ns ms)) H
theorem op_ltT (hu : X.A.units < cLine) : OpR X (compareOp .Lt) (rLtT X.K) := by
  intro pins s σ H x y v u Q I rx ry h
  obtain ⟨a, b, ns, ms, rfl, rfl, ha, hb, q⟩ := h
  cases rx
  cases ry
  obtain ⟨its, r1, p1, _⟩ := I.tuple ha
  obtain ⟨its2, r2, p2, _⟩ := I.tuple hb
  have i1 : IntsAre its.toArray.toList ns := intsAre_of r1
  have i2 : IntsAre its2.toArray.toList ms := intsAre_of r2
  exact HT.lt_tupInts p1 p2 i1 i2 hu ⟨.bl (HT.lexLt ns ms), H, I, rfl, q⟩
/-- t + u, t not empty: u empty gives t itself -/
def rCatT (K : PySem.W.Frag) : R2 := fun x y H Q => ∃ a b xs ys, x = .ref a ∧ y = .ref b ∧ SqT K H a xs ∧ SqT K H b ys ∧ xs ≠ [] ∧ xs.length + ys.length ≤ sizeLine ∧
  (ys = [] → Q (.ref a) H) ∧ (ys ≠ [] → ∀ p, H p = none → Q (.ref p) (upd H p (.tup (xs ++ ys))))
theorem Vals.nil_iff {xs : List V} {us : List Value} (r : Vals xs us) : us = [] ↔ xs = [] := by
  cases r with
  | nil => simp
  | cons _ _ => simp
theorem op_catT : OpR X (binaryOp .Add) (rCatT X.K) := by
  intro pins s σ H x y v u Q I rx ry h
  obtain ⟨a, b, xs, ys, rfl, rfl, ha, hb, hx, hz, q1, q2⟩ := h
  cases rx
  cases ry
  obtain ⟨its, r1, p1, _⟩ := I.tuple ha
  obtain ⟨its2, r2, p2, _⟩ := I.tuple hb
  refine HT.cat_tup p1 p2 (fun z => hx (r1.nil_iff.mp z)) (fun z => ⟨.ref a, H, I, rfl, q1 (r2.nil_iff.mp z)⟩) (fun z => ?_) (by rw [← r1.length, ← r2.length]; exact hz)
  refine ⟨.ref s.heap.objs.size, _, I.laid (t' := s.toks) (o := .tup (xs ++ ys)) (fun b ob q => Heap.get?_push_of_some _ q) (Nat.le_refl _) ?_, rfl, q2 (fun w => z (r2.nil_iff.mpr w)) _ (I.hok.fresh (Nat.le_refl _))⟩
  exact ⟨by rw [List.length_append]; exact hz, _, r1.append r2, IsTup.new _ _⟩
/-- tuple(t) -/
theorem call_tupleT : CallR X (.type "tuple") (fun xs H Q => ∃ a ys, xs = [.ref a] ∧ SqT X.K H a ys ∧ Q (.ref a) H) := by
  intro pins s σ H xs us Q I r h
  obtain ⟨a, ys, rfl, ha, q⟩ := h
  obtain ⟨u, rfl, ru⟩ := vals1 r
  cases ru
  obtain ⟨its, _, p1, _⟩ := I.tuple ha
  exact call_tuple_same (items := its.toArray) p1 ⟨.ref a, H, I, rfl, q⟩
end
end L2

namespace L2
open PySem PySem.Spec PyProof.Rows

/-! ### places -/
/-- the place that an index of any sign means -/
def ixN (n : Nat) (i : Int) : Option Nat := if 0 ≤ i then (if i < n then some i.toNat else none) else if -(n : Int) ≤ i then some (i + n).toNat else none
def atI {α : Type} (xs : List α) (i : Int) : Option α := (ixN xs.length i).bind fun j => xs[j]?
theorem ixN_seq {n : Nat} {i : Int} {j : Nat} (h : ixN n i = some j) : seqIndex? i n = some j ∧ j < n ∧ -(n : Int) ≤ i ∧ i < n := by
  unfold ixN at h
  by_cases h0 : 0 ≤ i
  · rw [if_pos h0] at h
    by_cases h1 : i < n
    · rw [if_pos h1] at h
      have e : i.toNat = j := Option.some.inj h
      exact ⟨by rw [seqIndex_of h0 h1, e], by omega, by omega, h1⟩
    · rw [if_neg h1] at h; cases h
  · rw [if_neg h0] at h
    by_cases h1 : -(n : Int) ≤ i
    · rw [if_pos h1] at h
      have e : (i + n).toNat = j := Option.some.inj h
      exact ⟨by rw [seqIndex_neg (by omega) h1, e], by omega, h1, by omega⟩
    · rw [if_neg h1] at h; cases h
theorem atI_get {α : Type} {xs : List α} {i : Int} {v : α} (h : atI xs i = some v) : ∃ j, seqIndex? i xs.length = some j ∧ xs[j]? = some v ∧ j < xs.length ∧ -(xs.length : Int) ≤ i ∧ i < xs.length := by
  unfold atI at h
  cases e : ixN xs.length i with
  | none => rw [e] at h; cases h
  | some j =>
    rw [e] at h
    obtain ⟨h1, h2, h3, h4⟩ := ixN_seq e
    exact ⟨j, h1, h, h2, h3, h4⟩
theorem atI_nat {α : Type} {xs : List α} {j : Nat} {v : α} (h : xs[j]? = some v) : atI xs (j : Int) = some v := by
  have hj : j < xs.length := (List.getElem?_eq_some_iff.mp h).1
  have e : ixN xs.length (j : Int) = some j := by
    unfold ixN
    rw [if_pos (by omega), if_pos (by omega)]; simp
  unfold atI; rw [e]; exact h
theorem atI_last {α : Type} (xs : List α) (v : α) : atI (xs ++ [v]) (-1) = some v := by
  have hl : (xs ++ [v]).length = xs.length + 1 := by simp
  have e : ixN (xs ++ [v]).length (-1) = some xs.length := by
    unfold ixN
    rw [hl, if_neg (by decide), if_pos (by omega)]
    congr 1
    omega
  unfold atI
  rw [e]
  show (xs ++ [v])[xs.length]? = some v
  simp

/-! ### what may be subscripted -/
/-- what stands as an index of a plain subscript -/
def PlainIx (b : Expr) : Prop := ∀ o i, subscripted b false o i = operate [o, i] (getItem o i)
/-- a subscript by values -/
def IxR (X : Cx) (r : R2) : Prop :=
  ∀ (value slice : Expr) (pins : List (Addr × Obj)) (s : Shared) (σ : St) (H : Hp) (x y : V) (v u : Value) (Q : VK), Inv X pins σ H s → RelV x v → RelV y u → r x y H Q →
    subscripted slice false v u = operate [v, u] (getItem v u) → wpAny (model X.prog X.w) X.A (subscriptTail value slice v u) (EP X pins σ Q) X.xe s
/-- a call of a builtin's method by values: the receiver, the arguments -/
def MtR (X : Cx) (id : String) (r : V → List V → Hp → VK → Prop) : Prop :=
  ∀ (pins : List (Addr × Obj)) (s : Shared) (σ : St) (H : Hp) (x : V) (xs : List V) (v : Value) (us : List Value) (Q : VK), Inv X pins σ H s → RelV x v → Vals xs us → r x xs H Q →
    wpAny (model X.prog X.w) X.A (call (.builtin id) (v :: us)) (EP X pins σ Q) X.xe s
section
variable {X : Cx} {a b : Expr} {ta tb : TE} {pos : Pos}
theorem IxR.or {r r' : R2} (h : IxR X r) (h' : IxR X r') : IxR X (fun x y H Q => r x y H Q ∨ r' x y H Q) := by
  intro value slice pins s σ H x y v u Q I rx ry q hs
  rcases q with q | q
  · exact h value slice pins s σ H x y v u Q I rx ry q hs
  · exact h' value slice pins s σ H x y v u Q I rx ry q hs
theorem MtR.or {id : String} {r r' : V → List V → Hp → VK → Prop} (h : MtR X id r) (h' : MtR X id r') : MtR X id (fun x xs H Q => r x xs H Q ∨ r' x xs H Q) := by
  intro pins s σ H x xs v us Q I rx rs q
  rcases q with q | q
  · exact h pins s σ H x xs v us Q I rx rs q
  · exact h' pins s σ H x xs v us Q I rx rs q
/-- a[b] -/
theorem pe_ix {r : R2} (hr : IxR X r) (ha : PE X a ta) (hb : PE X b tb) (hs : PlainIx b) : PE X (.Subscript a b pos) (tOp r ta tb) := by
  intro pins s σ H Q I h
  exact Subscript_ (binT ha hb I h fun v u s2 x y H2 I2 rx ry q => hr a b pins s2 σ H2 x y v u Q I2 rx ry q (hs _ _))

def rIxL (K : PySem.W.Frag) : R2 := fun x y H Q => ∃ p xs i v, x = .ref p ∧ y = .int i ∧ SqL K H p xs ∧ atI xs i = some v ∧ Q v H
def rIxT (K : PySem.W.Frag) : R2 := fun x y H Q => ∃ p xs i v, x = .ref p ∧ y = .int i ∧ SqT K H p xs ∧ atI xs i = some v ∧ Q v H
def rIxS : R2 := fun x y H Q => ∃ z i c, x = .str z ∧ y = .int i ∧ z.length ≤ sizeLine ∧ atI z.cps.toList i = some c ∧ Q (.str ⟨#[c]⟩) H
theorem ix_list : IxR X (rIxL X.K) := by
  intro value slice pins s σ H x y v u Q I rx ry h hs
  obtain ⟨p, xs, i, z, rfl, rfl, hq, he, q⟩ := h
  cases rx
  obtain ⟨t, rfl⟩ := ry
  obtain ⟨its, r, pl, hz⟩ := I.list hq
  obtain ⟨j, h1, h2, h3, h4, h5⟩ := atI_get he
  obtain ⟨w, ew, rw'⟩ := r.get h2
  have hl := r.length
  have hn := line63
  have fin : EP X pins σ Q w s := ⟨z, H, I, rw', q⟩
  by_cases h0 : 0 ≤ i
  · have hj : i.toNat = j := by
      rw [seqIndex_of h0 h5] at h1
      exact Option.some.inj h1
    exact item_listR pl.isList h0 (by omega) (by rw [hj]; simpa using ew) fin hs
  · have hj : (i + (its.toArray.size : Int)).toNat = j := by
      rw [seqIndex_neg (by omega) h4] at h1
      rw [List.size_toArray, ← hl]
      exact Option.some.inj h1
    exact subscriptTail_builtinR (x := w) pl.isList.typeIs slot_list_getitem.lookup
      (wpAny_getItem_list_neg (Q := fun r s' => r = w ∧ EP X pins σ Q r s') pl.isList (by omega) (by rw [List.size_toArray] <;> omega) (by omega) (by rw [hj]; simpa using ew) ⟨rfl, fin⟩) hs
theorem ix_tup : IxR X (rIxT X.K) := by
  intro value slice pins s σ H x y v u Q I rx ry h hs
  obtain ⟨p, xs, i, z, rfl, rfl, hq, he, q⟩ := h
  cases rx
  obtain ⟨t, rfl⟩ := ry
  obtain ⟨its, r, pl, hz⟩ := I.tuple hq
  obtain ⟨j, h1, h2, h3, h4, h5⟩ := atI_get he
  obtain ⟨w, ew, rw'⟩ := r.get h2
  have hl := r.length
  have hn := line63
  have fin : EP X pins σ Q w s := ⟨z, H, I, rw', q⟩
  exact subscriptTail_builtinR (x := w) pl.typeIs slot_tuple_getitem.lookup
    (getItem_tuple (j := j) (Q := fun r s' => r = w ∧ EP X pins σ Q r s') pl (by omega) (by omega) (by rw [List.size_toArray, ← hl]; exact h1) (by simpa using ew) ⟨rfl, fin⟩) hs
theorem ix_str : IxR X rIxS := by
  intro value slice pins s σ H x y v u Q I rx ry h hs
  obtain ⟨z, i, c, rfl, rfl, hz, he, q⟩ := h
  obtain ⟨t, rfl⟩ := rx
  obtain ⟨t', rfl⟩ := ry
  obtain ⟨j, h1, h2, h3, h4, h5⟩ := atI_get he
  have hl : z.cps.toList.length = z.length := by simp [Str.length]
  rw [hl] at h1 h4 h5
  have hn := line63
  exact tail_any (typeIs_str s z t) slot_str_getitem.lookup (getItem_str (c := c) (by
    have e1 : decide (i < -(2 ^ 63 : Int)) = false := decide_eq_false (by omega)
    have e2 : decide (i ≥ 2 ^ 63) = false := decide_eq_false (by omega)
    rw [e1, e2, Bool.or_false]) (by rw [h1]; simpa using h2) ⟨.str ⟨#[c]⟩, H, I.tok _, ⟨_, rfl⟩, q⟩) hs
/-- list, tuple or str -/
def rIx (K : PySem.W.Frag) : R2 := fun x y H Q => rIxL K x y H Q ∨ rIxT K x y H Q ∨ rIxS x y H Q
theorem ix_seq : IxR X (rIx X.K) := ix_list.or (ix_tup.or ix_str)

/-! ### xs[i] = v, any sign -/
/-- the list's object behind a store -/
theorem mapSeq_set (its : List Value) (n j : Nat) (u : Value) : Obj.mapSeq (·.setIfInBounds j u) { cls := .type "list", data := .seq its.toArray n } = { cls := .type "list", data := .seq (its.set j u).toArray n } := by
  simp [Obj.mapSeq]
theorem Inv.lst {pins : List (Addr × Obj)} {σ : St} {H : Hp} {s : Shared} {p : Addr} {xs : List V} (I : Inv X pins σ H s) (h : H p = some (.lst xs)) :
    ∃ (its : List Value) (n : Nat), Vals xs its ∧ s.heap.get? p = some { cls := .type "list", data := .seq its.toArray n } ∧ xs.length ≤ sizeLine := by
  obtain ⟨z, its, n, r, e⟩ := I.hok p _ h
  exact ⟨its, n, r, e, z⟩
/-- the list at p is written by an update of its object -/
theorem Inv.lstUpd {pins : List (Addr × Obj)} {σ : St} {H : Hp} {s : Shared} {p : Addr} {xs ys : List V} {its its' : List Value} {n n' : Nat} {f : Obj → Obj} (I : Inv X pins σ H s) (h : H p = some (.lst xs))
    (ho : s.heap.get? p = some { cls := .type "list", data := .seq its.toArray n }) (hf : f { cls := .type "list", data := .seq its.toArray n } = { cls := .type "list", data := .seq its'.toArray n' }) (r : Vals ys its') (hz : ys.length ≤ sizeLine) (t : Nat) :
    Inv X pins σ (upd H p (.lst ys)) { s with heap := s.heap.update p f, toks := t } := by
  have e : (s.heap.update p f).get? p = some { cls := .type "list", data := .seq its'.toArray n' } := by
    rw [Heap.get?_update_self f ho (by rw [hf] <;> rfl), hf]
  refine I.write (x := p) (e := p) (by rw [h]; trivial) (.inl rfl) (fun b u hb q => (Heap.get?_update_other _ _ (Ne.symm hb)).trans q) ⟨_, e⟩ ?_
  exact ⟨hz, its', n', r, e⟩
def rSetL : V → V → V → Hp → (Hp → Prop) → Prop := fun o i v H Q => ∃ p xs k j, o = .ref p ∧ i = .int k ∧ H p = some (.lst xs) ∧ ixN xs.length k = some j ∧ Q (upd H p (.lst (xs.set j v)))
theorem set_list : PSet X rSetL := by
  intro pins s σ H o i v ov iv u Q I ro ri rv h
  obtain ⟨p, xs, k, j, rfl, rfl, hp, hj, q⟩ := h
  cases ro
  obtain ⟨t, rfl⟩ := ri
  obtain ⟨its, n, r, ho, hz⟩ := I.lst hp
  obtain ⟨h1, h2, h3, h4⟩ := ixN_seq hj
  have hl := r.length
  have hn := line63
  have I' : Inv X pins σ (upd H p (.lst (xs.set j v))) { s with heap := s.heap.update p (Obj.mapSeq (·.setIfInBounds j u)) } :=
    I.lstUpd hp ho (mapSeq_set its n j u) (r.set rv j) (by rw [List.length_set]; exact hz) s.toks
  by_cases h0 : 0 ≤ k
  · have hk : k.toNat = j := by
      rw [seqIndex_of h0 h4] at h1
      exact Option.some.inj h1
    exact PySem.W.ki_setAt ho h0 (by omega) (by rw [List.size_toArray, ← hl]; exact h4) (by rw [hk]; exact ⟨_, I', q⟩)
  · have hk : (k + (its.toArray.size : Int)).toNat = j := by
      rw [seqIndex_neg (by omega) h3] at h1
      rw [List.size_toArray, ← hl]
      exact Option.some.inj h1
    exact PySem.W.ki_setBack ho (by omega) (by rw [List.size_toArray, ← hl]; exact h3) (by omega) (by rw [hk]; exact ⟨_, I', q⟩)

/-! ### slices -/
theorem slice_bounds (lo hi : Option Int) (n : Nat) : (sliceBounds lo hi none n).1 = ((HT.sIx n 0 lo : Nat) : Int) ∧ (sliceBounds lo hi none n).2.1 = ((HT.sIx n n hi : Nat) : Int) ∧ (sliceBounds lo hi none n).2.2 = 1 := by
  refine ⟨?_, ?_, rfl⟩
  · cases lo with
    | none => simp [sliceBounds, HT.sIx]
    | some i =>
      simp only [sliceBounds, HT.sIx, Option.getD_none, show (1 : Int) > 0 by decide, if_true]
      by_cases h : i < 0
      · simp only [h, if_true] <;> omega
      · simp only [h, if_false] <;> omega
  · cases hi with
    | none => simp [sliceBounds, HT.sIx]
    | some i =>
      simp only [sliceBounds, HT.sIx, Option.getD_none, show (1 : Int) > 0 by decide, if_true]
      by_cases h : i < 0
      · simp only [h, if_true] <;> omega
      · simp only [h, if_false] <;> omega
theorem slicePick_cut (its : List Value) (lo hi : Option Int) : slicePick its.toArray lo hi none = ((its.drop (HT.sIx its.length 0 lo)).take (HT.sIx its.length its.length hi - HT.sIx its.length 0 lo)).toArray := by
  obtain ⟨h1, h2, h3⟩ := slice_bounds lo hi its.toArray.size
  unfold slicePick
  rw [h1, h2, h3]
  simp only [sliceRange_one, pick_run, List.size_toArray] <;> rfl
/-- xs[lo:hi] of a list: a new list -/
def rSlL (K : PySem.W.Frag) : V → Option Int → Option Int → Hp → VK → Prop := fun x lo hi H Q => ∃ a xs, x = .ref a ∧ SqL K H a xs ∧ ∀ p, H p = none → Q (.ref p) (upd H p (.lst (cutV xs lo hi)))
theorem sl_list : SlR X (rSlL X.K) := by
  intro pins s σ H x v vl vu lo hi sl Q I rx hs pl pu h
  obtain ⟨a, xs, rfl, hx, q⟩ := h
  cases rx
  obtain ⟨its, r, ht, hz⟩ := I.list hx
  have hlen := r.length
  refine ⟨"list", _, slot_list_getitem.lookup, ht.isList.typeIs, ?_⟩
  refine wpAny_getItem_list_slice ht.isList hs pl pu .none (by simp) ?_ (by rw [List.size_toArray] <;> omega)
  rw [slicePick_cut, ← hlen]
  refine ⟨.ref s.heap.objs.size, _, I.laid (t' := s.toks) (o := .lst (cutV xs lo hi)) (fun b ob q => Heap.get?_push_of_some _ q) (Nat.le_refl _) ?_, rfl, q _ (I.hok.fresh (Nat.le_refl _))⟩
  exact ⟨Nat.le_trans (cutV_length xs lo hi) hz, _, 0, (r.drop (HT.sIx xs.length 0 lo)).take (HT.sIx xs.length xs.length hi - HT.sIx xs.length 0 lo), Heap.get?_push_size _ rfl⟩

/-! ### in, not in: flat items -/
def flatV : V → Bool
  | .non => true
  | .bl _ => true
  | .int _ => true
  | .str _ => true
  | _ => false
/-- == of flat values -/
def eqV : V → V → Bool
  | .non, .non => true
  | .bl a, .bl b => a == b
  | .bl a, .int b => (if a then 1 else 0) == b
  | .int a, .bl b => a == (if b then 1 else 0)
  | .int a, .int b => a == b
  | .str a, .str b => a == b
  | _, _ => false
theorem eqAt_V {A : Around} {s : Shared} {y x : V} {u v : Value} (ry : RelV y u) (rx : RelV x v) (fy : flatV y = true) (fx : flatV x = true) : SeqAt.EqAt A s u v (eqV y x) := by
  cases y with
  | non =>
    cases ry
    cases x with
    | non => cases rx; exact SeqAt.EqAt.same _
    | bl b => cases rx; exact SeqAt.EqAt.none_bool b
    | int b => obtain ⟨t, rfl⟩ := rx; exact SeqAt.EqAt.none_int b t
    | str b => obtain ⟨t, rfl⟩ := rx; exact SeqAt.EqAt.none_str b t
    | _ => exact absurd (show false = true from fx) Bool.false_ne_true
  | bl a =>
    cases ry
    cases x with
    | non => cases rx; exact SeqAt.EqAt.bool_none a
    | bl b => cases rx; exact SeqAt.EqAt.bool_bool a b
    | int b => obtain ⟨t, rfl⟩ := rx; exact SeqAt.EqAt.bool_int a b t
    | str b => obtain ⟨t, rfl⟩ := rx; exact SeqAt.EqAt.bool_str a b t
    | _ => exact absurd (show false = true from fx) Bool.false_ne_true
  | int a =>
    obtain ⟨t', rfl⟩ := ry
    cases x with
    | non => cases rx; exact SeqAt.EqAt.int_none a t'
    | bl b => cases rx; exact SeqAt.EqAt.int_bool a t' b
    | int b => obtain ⟨t, rfl⟩ := rx; exact SeqAt.EqAt.int_int a t' b t
    | str b => obtain ⟨t, rfl⟩ := rx; exact SeqAt.EqAt.int_str a t' b t
    | _ => exact absurd (show false = true from fx) Bool.false_ne_true
  | str a =>
    obtain ⟨t', rfl⟩ := ry
    cases x with
    | non => cases rx; exact SeqAt.EqAt.str_none a t'
    | bl b => cases rx; exact SeqAt.EqAt.str_bool a t' b
    | int b => obtain ⟨t, rfl⟩ := rx; exact SeqAt.EqAt.str_int a t' b t
    | str b => obtain ⟨t, rfl⟩ := rx; exact SeqAt.EqAt.str_str a t' b t
    | _ => exact absurd (show false = true from fx) Bool.false_ne_true
  | _ => exact absurd (show false = true from fy) Bool.false_ne_true
/-- the items' answers, read off the values (a value's own answer does not lean on its token) -/
def eqU (x : V) (u : Value) : Bool := match u with
  | .none => eqV .non x
  | .bool b => eqV (.bl b) x
  | .int i _ => eqV (.int i) x
  | .str z _ => eqV (.str z) x
  | _ => false
theorem eqU_of {x y : V} {u : Value} (r : RelV y u) (f : flatV y = true) : eqU x u = eqV y x := by
  cases y with
  | non => cases r; rfl
  | bl b => cases r; rfl
  | int i => obtain ⟨t, rfl⟩ := r; rfl
  | str z => obtain ⟨t, rfl⟩ := r; rfl
  | _ => exact absurd (show false = true from f) Bool.false_ne_true
theorem any_eqU {x : V} : ∀ {xs : List V} {us : List Value}, Vals xs us → xs.all flatV = true → us.any (eqU x) = xs.any fun y => eqV y x
  | _, _, .nil, _ => rfl
  | y :: xs, u :: us, .cons r t, f => by
    rw [List.all_cons, Bool.and_eq_true] at f
    rw [List.any_cons, List.any_cons, eqU_of r f.1, any_eqU t f.2]
theorem mem_eqAt {A : Around} {s : Shared} {x : V} {v : Value} (rx : RelV x v) (fx : flatV x = true) : ∀ {xs : List V} {us : List Value}, Vals xs us → xs.all flatV = true → ∀ u ∈ us, SeqAt.EqAt A s u v (eqU x u)
  | _, _, .nil, _ => fun u hu => by cases hu
  | y :: xs, u :: us, .cons r t, f => fun u' hu => by
    rw [List.all_cons, Bool.and_eq_true] at f
    rcases List.mem_cons.mp hu with rfl | hu
    · rw [eqU_of r f.1]; exact eqAt_V r rx f.1 fx
    · exact mem_eqAt rx fx t f.2 u' hu
def inV (x : V) (xs : List V) : Bool := xs.any fun y => eqV y x
/-- x in a list or tuple of flat items -/
def rIn (K : PySem.W.Frag) (neg : Bool) : R2 := fun x y H Q => ∃ p xs, y = .ref p ∧ (SqL K H p xs ∨ SqT K H p xs) ∧ flatV x = true ∧ xs.all flatV = true ∧ Q (.bl (if neg then !inV x xs else inV x xs)) H
theorem op_in_seq : OpR X (compareOp .In) (rIn X.K false) := by
  intro pins s σ H x y v u Q I rx ry h
  obtain ⟨p, xs, rfl, hq, fx, fs, q⟩ := h
  cases ry
  rcases hq with hq | hq
  · obtain ⟨its, r, pl, hz⟩ := I.list hq
    refine SeqAt.in_listAt (eqU x) pl.isList (fun w hw => mem_eqAt rx fx r fs w (by simpa using hw)) ⟨.bl _, H, I, rfl, ?_⟩
    rw [show its.toArray.any (eqU x) = its.any (eqU x) by simp, any_eqU r fs]
    exact q
  · obtain ⟨its, r, pl, hz⟩ := I.tuple hq
    refine SeqAt.in_tupleAt (eqU x) pl (fun w hw => mem_eqAt rx fx r fs w (by simpa using hw)) ⟨.bl _, H, I, rfl, ?_⟩
    rw [show its.toArray.any (eqU x) = its.any (eqU x) by simp, any_eqU r fs]
    exact q
theorem op_notIn_seq : OpR X (compareOp .NotIn) (rIn X.K true) := by
  intro pins s σ H x y v u Q I rx ry h
  obtain ⟨p, xs, rfl, hq, fx, fs, q⟩ := h
  cases ry
  rcases hq with hq | hq
  · obtain ⟨its, r, pl, hz⟩ := I.list hq
    refine SeqAt.notIn_listAt (eqU x) pl.isList (fun w hw => mem_eqAt rx fx r fs w (by simpa using hw)) ⟨.bl _, H, I, rfl, ?_⟩
    rw [show its.toArray.any (eqU x) = its.any (eqU x) by simp, any_eqU r fs]
    exact q
  · obtain ⟨its, r, pl, hz⟩ := I.tuple hq
    refine SeqAt.notIn_tupleAt (eqU x) pl (fun w hw => mem_eqAt rx fx r fs w (by simpa using hw)) ⟨.bl _, H, I, rfl, ?_⟩
    rw [show its.toArray.any (eqU x) = its.any (eqU x) by simp, any_eqU r fs]
    exact q
theorem op_notIn_str : OpR X (compareOp .NotIn) (fun x y H Q => ∃ i j, x = .str i ∧ y = .str j ∧ Q (.bl (!(!(Builtin.Str.occurrences j i 0 j.length 1).isEmpty))) H) := by
  intro pins s σ H x y v u Q I rx ry h
  obtain ⟨i, j, rfl, rfl, q⟩ := h
  obtain ⟨t, rfl⟩ := rx
  obtain ⟨t', rfl⟩ := ry
  exact notIn_str ⟨.bl _, H, I, rfl, q⟩

/-! ### len, list(x), tuple(x) of any list or tuple that is read -/
theorem call_len_seq : CallR X (.builtin "len") (fun xs H Q => ∃ p ys, xs = [.ref p] ∧ (SqL X.K H p ys ∨ SqT X.K H p ys) ∧ Q (.int ys.length) H) := by
  intro pins s σ H xs us Q I r h
  obtain ⟨p, ys, rfl, hq, q⟩ := h
  obtain ⟨u, rfl, rx⟩ := vals1 r
  cases rx
  have hn := line63
  rcases hq with hq | hq
  · obtain ⟨its, r', pl, hz⟩ := I.list hq
    have hlen := r'.length
    exact Calls.call_len_list pl.isList (by simp only [List.size_toArray] <;> omega) ⟨.int ys.length, H, I.tok _, ⟨s.toks + 1, by rw [List.size_toArray, hlen]⟩, q⟩
  · obtain ⟨its, r', pl, hz⟩ := I.tuple hq
    have hlen := r'.length
    exact len_tuple pl (by simp only [List.size_toArray] <;> omega) ⟨.int ys.length, H, I.tok _, ⟨s.toks + 1, by rw [List.size_toArray, hlen]⟩, q⟩
theorem call_len_str : CallR X (.builtin "len") (fun xs H Q => ∃ z, xs = [.str z] ∧ z.length ≤ sizeLine ∧ Q (.int z.length) H) := by
  intro pins s σ H xs us Q I r h
  obtain ⟨z, rfl, hz, q⟩ := h
  obtain ⟨u, rfl, t, rfl⟩ := vals1 r
  have hn := line63
  exact len_str (by omega) ⟨.int z.length, H, I.tok _, ⟨_, rfl⟩, q⟩
theorem CallR.or {f : Value} {r r' : List V → Hp → VK → Prop} (h : CallR X f r) (h' : CallR X f r') : CallR X f (fun xs H Q => r xs H Q ∨ r' xs H Q) := by
  intro pins s σ H xs us Q I rs q
  rcases q with q | q
  · exact h pins s σ H xs us Q I rs q
  · exact h' pins s σ H xs us Q I rs q
theorem call_list_of : CallR X (.type "list") (fun xs H Q => ∃ p ys, xs = [.ref p] ∧ (SqL X.K H p ys ∨ SqT X.K H p ys) ∧ ∀ l, H l = none → Q (.ref l) (upd H l (.lst ys))) := by
  intro pins s σ H xs us Q I r h
  obtain ⟨p, ys, rfl, hq, q⟩ := h
  obtain ⟨u, rfl, rx⟩ := vals1 r
  cases rx
  have fin : ∀ (its : List Value), Vals ys its → ys.length ≤ sizeLine → ∀ (h' : Heap) (c' : Nat), (∀ b o', s.heap.get? b = some o' → h'.get? b = some o') →
      h'.get? s.heap.objs.size = some { cls := .type "list", dict := none, data := .seq its.toArray c', slots := #[] } → EP X pins σ Q (.ref s.heap.objs.size) { s with heap := h' } := fun its r' hz h' c' kp e =>
    ⟨.ref s.heap.objs.size, _, I.laid (t' := s.toks) kp (Nat.le_refl _) (show ObjOk X.prog X.w _ h' _ (.lst ys) from ⟨hz, its, c', r', e⟩), rfl, q _ (I.hok.fresh (Nat.le_refl _))⟩
  rcases hq with hq | hq
  · obtain ⟨its, r', pl, hz⟩ := I.list hq
    have hlen := r'.length
    obtain ⟨o, ho, hc, n, hd⟩ := pl.isList
    exact call_list_seq p (.inl rfl) ho hc hd (fun h' c' kp e => fin its r' hz h' c' kp e) (by simp only [List.size_toArray] <;> omega)
  · obtain ⟨its, r', pl, hz⟩ := I.tuple hq
    have hlen := r'.length
    obtain ⟨o, ho, hc, n, hd⟩ := pl
    exact call_list_seq p (.inr rfl) ho hc hd (fun h' c' kp e => fin its r' hz h' c' kp e) (by simp only [List.size_toArray] <;> omega)
theorem call_tuple_of : CallR X (.type "tuple") (fun xs H Q => ∃ p ys, xs = [.ref p] ∧ ((SqL X.K H p ys ∧ ∀ l, H l = none → Q (.ref l) (upd H l (.tup ys))) ∨ (SqT X.K H p ys ∧ Q (.ref p) H))) := by
  intro pins s σ H xs us Q I r h
  obtain ⟨p, ys, rfl, h⟩ := h
  obtain ⟨u, rfl, rx⟩ := vals1 r
  cases rx
  rcases h with ⟨hq, q⟩ | ⟨hq, q⟩
  · obtain ⟨its, r', pl, hz⟩ := I.list hq
    have hlen := r'.length
    refine call_tuple_list pl.isList (fun h' kp => ?_) (by simp only [List.size_toArray] <;> omega)
    have I1 : Inv X pins σ H { s with heap := h' } := I.kept (t' := s.toks) kp
    have I2 : Inv X pins σ (upd H h'.objs.size (.tup ys)) { s with heap := h'.push { cls := .type "tuple", data := .seq its.toArray } } :=
      I1.laid (t' := s.toks) (fun b o e => Heap.get?_push_of_some _ e) (Nat.le_refl _) (show ObjOk X.prog X.w _ _ _ (.tup ys) from ⟨hz, its, r', IsTup.new _ _⟩)
    exact ⟨.ref h'.objs.size, _, I2, rfl, q _ (I1.hok.fresh (Nat.le_refl _))⟩
  · obtain ⟨its, r', pl, hz⟩ := I.tuple hq
    exact call_tuple_same pl ⟨.ref p, H, I, rfl, q⟩

/-! ### the call of a builtin's method: o.m(..) -/
/-- the value is of that builtin type -/
def tyV (K : PySem.W.Frag) (T : String) (x : V) (H : Hp) : Prop := match x with
  | .str _ => T = "str"
  | .int _ => T = "int"
  | .ref p => (T = "list" ∧ ∃ xs, SqL K H p xs) ∨ (T = "tuple" ∧ ∃ o, K.lookup p = some o ∧ o.cls = .type "tuple" ∧ o.dict = none) ∨
      (T = "dict" ∧ ((∃ kvs, H p = some (.dK kvs)) ∨ ∃ kvs, H p = some (.dT kvs))) ∨ (T = "set" ∧ ∃ S n, H p = some (.set S n))
  | _ => False
theorem tyV_is {pins : List (Addr × Obj)} {σ : St} {H : Hp} {s : Shared} {T : String} {x : V} {v : Value} (I : Inv X pins σ H s) (r : RelV x v) (ty : tyV X.K T x H) :
    s.TypeIs v T ∧ ∀ a, v = .ref a → ∃ ob, s.heap.get? a = some ob ∧ ob.dict = none := by
  cases x with
  | str z =>
    obtain ⟨t, rfl⟩ := r
    cases (show T = "str" from ty)
    exact ⟨typeIs_str s z t, fun _ e => nomatch e⟩
  | int i =>
    obtain ⟨t, rfl⟩ := r
    cases (show T = "int" from ty)
    exact ⟨typeIs_int s i t, fun _ e => nomatch e⟩
  | ref p =>
    cases r
    rcases ty with ⟨rfl, xs, hq⟩ | ⟨rfl, o, hk, hc, hd⟩ | ⟨rfl, hk⟩ | ⟨rfl, S, n, hk⟩
    · obtain ⟨its, _, pl, _⟩ := I.list hq
      refine ⟨pl.isList.typeIs, fun a e => ?_⟩
      cases e
      obtain ⟨o, n, e, c, hd, _⟩ := pl
      exact ⟨o, e, hd⟩
    · refine ⟨⟨o, I.kIn p o hk, hc⟩, fun a e => ?_⟩
      cases e
      exact ⟨o, I.kIn _ o hk, hd⟩
    · have z : ∃ o, s.heap.get? p = some o ∧ o.ExactDict := by
        rcases hk with ⟨kvs, hk⟩ | ⟨kvs, hk⟩
        · obtain ⟨_, _, _, _, o, _, _, e, ex, _⟩ := I.hok p _ hk
          exact ⟨o, e, ex⟩
        · obtain ⟨_, _, _, _, o, _, _, e, ex, _⟩ := I.hok p _ hk
          exact ⟨o, e, ex⟩
      obtain ⟨o, e, ex⟩ := z
      refine ⟨⟨o, e, ex.1⟩, fun a e2 => ?_⟩
      cases e2
      exact ⟨o, e, ex.2.1⟩
    · obtain ⟨o, _, _, _, e, ex, _⟩ := I.hok p _ hk
      refine ⟨⟨o, e, ex.1⟩, fun a e2 => ?_⟩
      cases e2
      exact ⟨o, e, ex.2.1⟩
  | _ => exact False.elim ty
def tBM0 (K : PySem.W.Frag) (T : String) (r : V → List V → Hp → VK → Prop) (to : TE) : TE := fun σ H Q => to σ H fun x H1 => tyV K T x H1 ∧ r x [] H1 Q
def tBM (K : PySem.W.Frag) (T : String) (r : V → List V → Hp → VK → Prop) (to : TE) (t : TA) : TE := fun σ H Q => to σ H fun x H1 => tyV K T x H1 ∧ t σ H1 fun xs H2 => r x xs H2 Q
variable {o e : Expr} {es : List Expr} {to : TE} {t : TA} {name : Str} {apos cpos : Pos} {T id : String} {r : V → List V → Hp → VK → Prop}
theorem pe_bm0 (pa : PlainAttrs T) (slot : Slot T name id) (hty : typeOf (.builtin id) = pure (.type "method_descriptor")) (hm : MtR X id r) (ho : PE X o to)
    (hbase : attributeBase o name X.env (eval o X.env) = eval o X.env := by rfl) (hline : (apos.endLine == cpos.line) = true := by rfl) : PE X (.Call (.Attribute o name apos) [] [] cpos) (tBM0 X.K T r to) := by
  intro pins s σ H Q I h
  refine wpAny_Call_method0_late hbase hline (thn (ho pins s σ H _ I h) fun v s1 ⟨x, H1, I1, r1, ty, q1⟩ => ?_)
  obtain ⟨h1, h2⟩ := tyV_is I1 r1 ty
  exact ⟨T, id, pa, slot, hty, h1, h2, Calls.callWith_builtin rfl (PySem.evalArgs_none (hm pins s1 σ H1 x [] v [] Q I1 r1 .nil q1))⟩
theorem pe_bm (pa : PlainAttrs T) (slot : Slot T name id) (hty : typeOf (.builtin id) = pure (.type "method_descriptor")) (hm : MtR X id r) (ho : PE X o to) (ha : PA X (e :: es) t)
    (hbase : attributeBase o name X.env (eval o X.env) = eval o X.env := by rfl)
    (hfew : ((backTo cpos (starEach (e :: es) X.env)).all (fun x => !x.1) && (backToKw cpos (keywordEach [] X.env)).all (fun x => x.1.isSome)
      && decide ((e :: es).length + ([] : List Keyword).length + (if ([] : List Keyword).isEmpty then 0 else 1) < 30)) = true := by rfl)
    (hline : (apos.endLine == cpos.line) = true := by rfl) (hs : starEach (e :: es) X.env = (false, eval e X.env) :: starEach es X.env := by rfl) (hplain : (backTo cpos (starEach es X.env)).any (·.1) = false := by rfl) :
    PE X (.Call (.Attribute o name apos) (e :: es) [] cpos) (tBM X.K T r to t) := by
  intro pins s σ H Q I h
  refine wpAny_Call_method_late hbase hfew hline rfl (thn (ho pins s σ H _ I h) fun v s1 ⟨x, H1, I1, r1, ty, q1⟩ => ?_)
  obtain ⟨h1, h2⟩ := tyV_is I1 r1 ty
  refine ⟨T, id, pa, slot, hty, h1, h2, ?_⟩
  have hA := ha cpos pins s1 σ H1 _ I1 q1
  rw [hs] at hA ⊢
  refine Calls.callWith_builtin (by show (false || (backTo cpos (starEach es X.env)).any (·.1)) = false; rw [hplain] <;> rfl) (Calls.evalArgs_plain ?_)
  exact thn hA fun us s2 ⟨vs, H2, I2, r2, q2⟩ => hm pins s2 σ H2 x vs v us Q I2 r1 r2 q2
/- xs.append(e), list.index on a module's tuple .. are MtR facts of 06m -/
end
end L2

namespace L2
open PySem PySem.Spec PyProof.Rows

def MtM (X : Cx) (id : String) (r : V → List V → Hp → VK → Prop) : Prop :=
  ∀ (pins : List (Addr × Obj)) (s : Shared) (σ : St) (H : Hp) (x : V) (xs : List V) (v : Value) (us : List Value) (Q : VK), Inv X pins σ H s → RelV x v → Vals xs us → r x xs H Q →
    wpAny (model X.prog X.w) X.A (call (.builtin id) (v :: us)) (EP X pins σ Q) X.xe s

/-! ### lists of values -/
theorem Vals.one : ∀ {x : V} {us : List Value}, Vals [x] us → ∃ u, us = [u] ∧ RelV x u
  | _, _, .cons r .nil => ⟨_, rfl, r⟩
theorem Vals.two : ∀ {x y : V} {us : List Value}, Vals [x, y] us → ∃ u v, us = [u, v] ∧ RelV x u ∧ RelV y v
  | _, _, _, .cons r (.cons q .nil) => ⟨_, _, rfl, r, q⟩
theorem Vals.zero : ∀ {us : List Value}, Vals [] us → us = []
  | _, .nil => rfl
theorem Vals.dropLast {xs : List V} {us : List Value} (h : Vals xs us) : Vals xs.dropLast us.dropLast := by
  induction h with
  | nil => exact .nil
  | cons r t ih =>
    cases t with
    | nil => exact .nil
    | cons q t' => exact .cons r ih
theorem Vals.eraseIdx : ∀ {xs : List V} {us : List Value} (i : Nat), Vals xs us → Vals (xs.eraseIdx i) (us.eraseIdx i)
  | _, _, _, .nil => .nil
  | _, _, 0, .cons _ t => t
  | _, _, i + 1, .cons r t => .cons r (Vals.eraseIdx i t)
theorem Vals.reverse {xs : List V} {us : List Value} (h : Vals xs us) : Vals xs.reverse us.reverse := by
  induction h with
  | nil => exact .nil
  | cons r t ih => rw [List.reverse_cons, List.reverse_cons]; exact Vals.append ih (.cons r .nil)
theorem Vals.rep {xs : List V} {us : List Value} (h : Vals xs us) : ∀ k : Nat, Vals (List.replicate k xs).flatten (List.replicate k us).flatten
  | 0 => .nil
  | k + 1 => by
    rw [List.replicate_succ, List.replicate_succ, List.flatten_cons, List.flatten_cons]
    exact Vals.append h (Vals.rep h k)
theorem erase_last {α : Type} (l : List α) : l.eraseIdx (l.length - 1) = l.dropLast := by
  induction l with
  | nil => rfl
  | cons a r ih =>
    cases r with
    | nil => rfl
    | cons b r =>
      have e : (a :: b :: r).length - 1 = ((b :: r).length - 1) + 1 := by
        have h1 : (a :: b :: r).length = r.length + 2 := rfl
        have h2 : (b :: r).length = r.length + 1 := rfl
        omega
      rw [e, List.eraseIdx_cons_succ, ih]
      all_goals rfl
theorem len_erase {α : Type} : ∀ (l : List α) (i : Nat), (l.eraseIdx i).length ≤ l.length
  | [], _ => Nat.le_refl _
  | _ :: _, 0 => Nat.le_succ _
  | _ :: r, i + 1 => Nat.succ_le_succ (len_erase r i)
theorem foldl_rep (its : List Value) : ∀ (k : Nat) (acc : List Value),
    List.foldl (fun x1 x2 => x1 ++ x2) acc.toArray (List.replicate k its.toArray) = (acc ++ (List.replicate k its).flatten).toArray
  | 0, acc => by simp
  | k + 1, acc => by
    have e : acc.toArray ++ its.toArray = (acc ++ its).toArray := by simp
    have e2 : (acc ++ its) ++ (List.replicate k its).flatten = acc ++ (List.replicate (k + 1) its).flatten := by
      rw [List.replicate_succ, List.flatten_cons, List.append_assoc]
    rw [← e2, ← foldl_rep its k (acc ++ its), ← e, List.replicate_succ, List.foldl_cons]

section
variable {X : Cx} {pins : List (Addr × Obj)} {σ : St} {H : Hp} {s : Shared} {l b : Addr} {xs ys zs : List V}

/-! ### the two steps: a tracked list is rewritten, a new list is laid -/
theorem Inv.lset {its its' : List Value} {n : Nat} {f : Array Value → Array Value} {t' : Nat} (I : Inv X pins σ H s) (hH : H l = some (.lst xs))
    (e : s.heap.get? l = some { cls := .type "list", data := .seq its.toArray n }) (hf : f its.toArray = its'.toArray) (hv : Vals ys its') (hz : ys.length ≤ sizeLine) :
    Inv X pins σ (upd H l (.lst ys)) { s with heap := s.heap.update l (Obj.mapSeq f), toks := t' } := by
  have q := PySem.IsL.update e f
  rw [hf] at q
  refine I.write (x := l) (e := l) (by rw [hH]; exact trivial) (.inl rfl) (fun b' u hb hu => (Heap.get?_update_other s.heap (Obj.mapSeq f) (Ne.symm hb)).trans hu) ⟨_, q⟩ ?_
  exact ⟨hz, its', _, hv, q⟩
theorem Inv.lnew {its : List Value} {t' : Nat} (I : Inv X pins σ H s) (hv : Vals ys its) (hz : ys.length ≤ sizeLine) :
    Inv X pins σ (upd H s.heap.objs.size (.lst ys)) { s with heap := s.heap.push { cls := .type "list", data := .seq its.toArray }, toks := t' } :=
  I.laid (fun _ _ q => Heap.get?_push_of_some _ q) (Nat.le_refl _) ⟨hz, its, 0, hv, Heap.get?_push_size _ rfl⟩
theorem Inv.fresh (I : Inv X pins σ H s) : H s.heap.objs.size = none := I.hok.fresh (Nat.le_refl _)
theorem Inv.lstM (I : Inv X pins σ H s) (hH : H l = some (.lst xs)) : xs.length ≤ sizeLine ∧ ∃ (its : List Value) (n : Nat), Vals xs its ∧ xs.length = its.length ∧ s.heap.get? l = some { cls := .type "list", data := .seq its.toArray n } := by
  obtain ⟨z, its, n, r, e⟩ := I.hok l _ hH
  exact ⟨z, its, n, r, r.length, e⟩

theorem notLongL {n : Nat} (h : n ≤ sizeLine) : Builtin.List.listTooLong n = false := by
  unfold Builtin.List.listTooLong
  exact decide_eq_false (by omega)
end

section
variable {X : Cx}

/-! ### methods -/
def rAppend : V → List V → Hp → VK → Prop := fun x vs H Q => ∃ l xs y, x = .ref l ∧ vs = [y] ∧ H l = some (.lst xs) ∧ xs.length < sizeLine ∧ Q .non (upd H l (.lst (xs ++ [y])))
theorem mt_append : MtM X "list.append" rAppend := by
  intro pins s σ H x vs v us Q I rx rv h
  obtain ⟨l, xs, y, rfl, rfl, hH, hz, q⟩ := h
  cases rx
  obtain ⟨u, rfl, ru⟩ := rv.one
  obtain ⟨z, its, n, r, hl, e⟩ := I.lstM hH
  refine call_meets F.slot_list_append ⟨_, e, rfl⟩ F.entry_list_append (F.args_list_append_2 _ _) (PySem.list_append l its.toArray n u (by rw [List.size_toArray]; omega)) ⟨e, ?_⟩
  refine ⟨.non, _, I.lset (its' := its ++ [u]) hH e (by simp) (r.append (.cons ru .nil)) ?_, rfl, q⟩
  rw [List.length_append, List.length_singleton]
  omega

def rExtend : V → List V → Hp → VK → Prop := fun x vs H Q => ∃ l b xs zs, x = .ref l ∧ vs = [.ref b] ∧ H l = some (.lst xs) ∧ H b = some (.lst zs) ∧ xs.length + zs.length ≤ sizeLine ∧ Q .non (upd H l (.lst (xs ++ zs)))
theorem mt_extend : MtM X "list.extend" rExtend := by
  intro pins s σ H x vs v us Q I rx rv h
  obtain ⟨l, b, xs, zs, rfl, rfl, hH, hB, hz, q⟩ := h
  cases rx
  obtain ⟨u, rfl, ru⟩ := rv.one
  cases ru
  obtain ⟨z, its, n, r, hl, e⟩ := I.lstM hH
  obtain ⟨z2, its2, n2, r2, hl2, e2⟩ := I.lstM hB
  have hsz : its.toArray.size + its2.toArray.size ≤ sizeLine := by rw [List.size_toArray, List.size_toArray]; omega
  have hlong : ¬ (!its.toArray.isEmpty && Builtin.List.listTooLong (its.toArray.size + its2.toArray.size)) = true := by
    rw [notLongL hsz, Bool.and_false]
    exact Bool.false_ne_true
  refine call_meets F.slot_list_extend ⟨_, e, rfl⟩ F.entry_list_extend (F.args_list_extend_2 _ _)
    (AutoSeq1.list_extend_list_list_0 l its.toArray n b its2.toArray n2 hlong (by rw [List.size_toArray]; omega) (by omega)) ⟨e, e2, ?_⟩
  refine ⟨.non, _, I.lset (its' := its ++ its2) hH e (by simp) (r.append r2) ?_, rfl, q⟩
  rw [List.length_append]
  omega

def rPop : V → List V → Hp → VK → Prop := fun x vs H Q => ∃ l xs y, x = .ref l ∧ vs = [] ∧ H l = some (.lst xs) ∧ xs[xs.length - 1]? = some y ∧ Q y (upd H l (.lst xs.dropLast))
theorem mt_pop : MtM X "list.pop" rPop := by
  intro pins s σ H x vs v us Q I rx rv h
  obtain ⟨l, xs, y, rfl, rfl, hH, hy, q⟩ := h
  cases rx
  have hus := rv.zero
  subst hus
  obtain ⟨z, its, n, r, hl, e⟩ := I.lstM hH
  obtain ⟨u, hu, ru⟩ := r.get hy
  have hy' : its.toArray[its.toArray.size - 1]? = some u := by
    show its.toArray[its.length - 1]? = some u
    rw [← Array.getElem?_toList, ← hl]
    exact hu
  refine call_meets F.slot_list_pop ⟨_, e, rfl⟩ F.entry_list_pop (F.args_list_pop_1 _) (MeetsSeq.list_pop_last l its.toArray n u hy' (by rw [List.size_toArray]; omega)) ⟨e, ?_⟩
  refine ⟨y, _, I.lset (its' := its.dropLast) hH e ?_ r.dropLast ?_, ru, q⟩
  · show its.toArray.eraseIdxIfInBounds (its.toArray.size - 1) = its.dropLast.toArray
    rw [List.size_toArray, List.eraseIdxIfInBounds_toArray, erase_last]
  · rw [List.length_dropLast]
    omega

def rPopAt : V → List V → Hp → VK → Prop := fun x vs H Q => ∃ l xs i k y, x = .ref l ∧ vs = [.int i] ∧ H l = some (.lst xs) ∧ -(2 ^ 63) ≤ i ∧ i < 2 ^ 63 ∧ seqIndex? i xs.length = some k ∧ xs[k]? = some y ∧ Q y (upd H l (.lst (xs.eraseIdx k)))
theorem mt_popAt : MtM X "list.pop" rPopAt := by
  intro pins s σ H x vs v us Q I rx rv h
  obtain ⟨l, xs, i, k, y, rfl, rfl, hH, h1, h2, hk, hy, q⟩ := h
  cases rx
  obtain ⟨u, rfl, ru⟩ := rv.one
  obtain ⟨t, rfl⟩ := ru
  obtain ⟨z, its, n, r, hl, e⟩ := I.lstM hH
  obtain ⟨w, hw, rw'⟩ := r.get hy
  refine call_meets F.slot_list_pop ⟨_, e, rfl⟩ F.entry_list_pop (F.args_list_pop_2 _ _)
    (MeetsSeq.list_pop_at l its.toArray n i t k w (fitsIndex_both h1 h2) (by rw [List.size_toArray, ← hl]; exact hk) (by rw [← Array.getElem?_toList]; exact hw) (by rw [List.size_toArray]; omega)) ⟨e, ?_⟩
  refine ⟨y, _, I.lset (its' := its.eraseIdx k) hH e ?_ (r.eraseIdx k) ?_, rw', q⟩
  · show its.toArray.eraseIdxIfInBounds k = (its.eraseIdx k).toArray
    rw [List.eraseIdxIfInBounds_toArray]
  · have := len_erase xs k
    omega

def rReverse : V → List V → Hp → VK → Prop := fun x vs H Q => ∃ l xs, x = .ref l ∧ vs = [] ∧ H l = some (.lst xs) ∧ Q .non (upd H l (.lst xs.reverse))
theorem mt_reverse : MtM X "list.reverse" rReverse := by
  intro pins s σ H x vs v us Q I rx rv h
  obtain ⟨l, xs, rfl, rfl, hH, q⟩ := h
  cases rx
  have hus := rv.zero
  subst hus
  obtain ⟨z, its, n, r, hl, e⟩ := I.lstM hH
  refine call_meets F.slot_list_reverse ⟨_, e, rfl⟩ F.entry_list_reverse (F.args_list_reverse_1 _) (AutoSeq1.list_reverse_list_0 l its.toArray n (by rw [List.size_toArray]; omega)) ⟨e, ?_⟩
  refine ⟨.non, _, I.lset (its' := its.reverse) hH e (by simp) r.reverse ?_, rfl, q⟩
  rw [List.length_reverse]
  omega

def rClear : V → List V → Hp → VK → Prop := fun x vs H Q => ∃ l xs, x = .ref l ∧ vs = [] ∧ H l = some (.lst xs) ∧ Q .non (upd H l (.lst []))
theorem mt_clear : MtM X "list.clear" rClear := by
  intro pins s σ H x vs v us Q I rx rv h
  obtain ⟨l, xs, rfl, rfl, hH, q⟩ := h
  cases rx
  have hus := rv.zero
  subst hus
  obtain ⟨z, its, n, r, hl, e⟩ := I.lstM hH
  refine call_meets F.slot_list_clear ⟨_, e, rfl⟩ F.entry_list_clear (F.args_list_clear_1 _) (AutoSeq1.list_clear_list_0 l its.toArray n (by rw [List.size_toArray]; omega)) ⟨e, ?_⟩
  exact ⟨.non, _, I.lset (its' := []) (ys := []) hH e rfl .nil (Nat.zero_le _), rfl, q⟩

/-! ### list + list, list += list, list * int -/
def rCat : R2 := fun x y H Q => ∃ l b xs zs, x = .ref l ∧ y = .ref b ∧ H l = some (.lst xs) ∧ H b = some (.lst zs) ∧ xs.length + zs.length ≤ sizeLine ∧ ∀ p, H p = none → Q (.ref p) (upd H p (.lst (xs ++ zs)))
theorem op_cat : OpR X (binaryOp .Add) rCat := by
  intro pins s σ H x y v u Q I rx ry h
  obtain ⟨l, b, xs, zs, rfl, rfl, hH, hB, hz, q⟩ := h
  cases rx
  cases ry
  obtain ⟨z, its, n, r, hl, e⟩ := I.lstM hH
  obtain ⟨z2, its2, n2, r2, hl2, e2⟩ := I.lstM hB
  refine PySem.P.add_list e e2 ?_ (by rw [List.size_toArray, List.size_toArray]; omega)
  have ea : its.toArray ++ its2.toArray = (its ++ its2).toArray := by simp
  rw [ea]
  exact ⟨.ref _, _, I.lnew (t' := s.toks) (r.append r2) (by rw [List.length_append]; omega), rfl, q _ I.fresh⟩
/-- a list times an int (a negative one is nothing) -/
def rRep : R2 := fun x y H Q => ∃ l k xs, x = .ref l ∧ y = .int k ∧ H l = some (.lst xs) ∧ -(2 ^ 63) ≤ k ∧ k < 2 ^ 63 ∧ xs.length * k.toNat ≤ sizeLine ∧
  ∀ p, H p = none → Q (.ref p) (upd H p (.lst (List.replicate k.toNat xs).flatten))
theorem len_rep {α : Type} (xs : List α) (k : Nat) : (List.replicate k xs).flatten.length = k * xs.length := by
  induction k with
  | zero => simp
  | succ k ih => rw [List.replicate_succ, List.flatten_cons, List.length_append, ih, Nat.succ_mul, Nat.add_comm]
theorem op_rep : OpR X (binaryOp .Mult) rRep := by
  intro pins s σ H x y v u Q I rx ry h
  obtain ⟨l, k, xs, rfl, rfl, hH, h1, h2, hz, q⟩ := h
  cases rx
  obtain ⟨t, rfl⟩ := ry
  obtain ⟨z, its, n, r, hl, e⟩ := I.lstM hH
  have hlen : its.toArray.size * k.toNat ≤ sizeLine := by rw [List.size_toArray, ← hl]; exact hz
  have hcap : ¬ its.toArray.size * k.toNat > (2 ^ 63 - 1) / 8 := by
    have : (sizeLine : Nat) ≤ (2 ^ 63 - 1) / 8 := by decide
    omega
  have hfit : ¬ (!Builtin.List.listFitsIndex k) = true := by
    rw [fitsIndex_both h1 h2]
    exact Bool.false_ne_true
  have hlong : ¬ Builtin.List.listTooLong (its.toArray.size * k.toNat) = true := by
    rw [notLongL hlen]
    exact Bool.false_ne_true
  have hnew : List.foldl (fun x1 x2 => x1 ++ x2) #[] (List.replicate (if its.toArray.isEmpty = true then 0 else k.toNat) its.toArray) = (List.replicate k.toNat its).flatten.toArray := by
    have f0 : ∀ m : Nat, List.foldl (fun x1 x2 => x1 ++ x2) #[] (List.replicate m its.toArray) = (List.replicate m its).flatten.toArray := fun m => by
      have := foldl_rep its m []
      rw [List.nil_append] at this
      exact this
    rw [f0]
    cases its with
    | nil => simp
    | cons a r' => rw [if_neg (by simp)]
  refine wpAny_binaryOp_repeat_ref (T := "list") (U := "int") (by decide) ⟨_, e, rfl⟩ (fun s' => typeIs_int s' k t) noFill_list_mul F.fills_int_mul F.slot_int_rmul repeat_list F.slot_int_index.lookup
    (call_meets F.slot_int_rmul (typeIs_int s k t) F.entry_int_rmul (F.args_int_rmul_2 _ _) (int___rmul___int_list k t l its.toArray n)
      ⟨e, rfl, ⟨_, e, rfl⟩, call_meets F.slot_list_mul ⟨_, e, rfl⟩ F.entry_list_mul (F.args_list_mul_2 _ _) (AutoListH.list___mul___list_int_3 l its.toArray n k t hfit hcap hlong) ⟨e, ?_⟩⟩)
  rw [hnew]
  exact ⟨.ref _, _, I.lnew (t' := s.toks) (r.rep k.toNat) (by rw [len_rep, Nat.mul_comm]; exact hz), rfl, q _ I.fresh⟩

/-! ### del xs[i] -/
theorem del_list {pins : List (Addr × Obj)} {s : Shared} {σ : St} {H : Hp} {l : Addr} {xs : List V} {i : Int} {t : Tok} {k : Nat} {Q : Unit → Shared → Prop} (I : Inv X pins σ H s) (hH : H l = some (.lst xs))
    (h1 : -(2 ^ 63) ≤ i) (h2 : i < 2 ^ 63) (hk : seqIndex? i xs.length = some k) (h : ∀ s', Inv X pins σ (upd H l (.lst (xs.eraseIdx k))) s' → Q () s') :
    wpAny (model X.prog X.w) X.A (delItem (.ref l) (.int i t)) Q X.xe s := by
  obtain ⟨z, its, n, r, hl, e⟩ := I.lstM hH
  refine PySem.P.delItem_list (k := k) e (fitsIndex_both h1 h2) (by rw [List.size_toArray, ← hl]; exact hk) (h _ ?_) (by rw [List.size_toArray]; omega)
  refine I.lset (its' := its.eraseIdx k) (t' := s.toks) hH e ?_ (r.eraseIdx k) ?_
  · show its.toArray.eraseIdxIfInBounds k = (its.eraseIdx k).toArray
    rw [List.eraseIdxIfInBounds_toArray]
  · have := len_erase xs k
    omega
end

/-! ### xs[a:b] = ys -/
section
variable {prog : Program} {w : World} {A : Around} {E : Value → Shared → Prop} {s : Shared}
theorem splice_eq (its its2 : List Value) (a c : Nat) : its.toArray.extract 0 a ++ its2.toArray ++ its.toArray.extract c its.toArray.size = (its.take a ++ its2 ++ its.drop c).toArray := by
  apply Array.toList_inj.mp
  first
    | (simp
       exact List.take_of_length_le (by simp))
    | simp [List.take_of_length_le]
    | simp
theorem bounds_run {a c n : Nat} (hac : a ≤ c) (hc : c ≤ n) : sliceBounds (some (a : Int)) (some (c : Int)) none n = ((a : Int), (c : Int), 1) := by
  simp only [sliceBounds, Option.getD_none]
  have h1 : ¬ ((a : Int) < 0) := by omega
  have h2 : ¬ ((c : Int) < 0) := by omega
  simp only [h1, h2, if_false, show (1 : Int) > 0 by decide, if_true]
  congr 1
  · omega
  · congr 1; omega
set_option maxRecDepth 100000 in
/-- list.__setitem__ with a slice of step one and another list -/
theorem setItem_slice {l b sl : Addr} {items new : Array Value} {n n2 : Nat} {vl vu : Value} {a c : Nat} {Q : Unit → Shared → Prop}
    (e : s.heap.get? l = some { cls := .type "list", data := .seq items n }) (e2 : s.heap.get? b = some { cls := .type "list", data := .seq new n2 }) (hne : l ≠ b)
    (hs : s.heap.IsSliceOf sl vl vu .none) (pl : IsPart vl (some (a : Int))) (pu : IsPart vu (some (c : Int))) (hac : a ≤ c) (hc : c ≤ items.size)
    (hsz : items.size + new.size ≤ sizeLine) (h : Q () { s with heap := s.heap.update l (Obj.mapSeq fun xs => xs.extract 0 a ++ new ++ xs.extract c xs.size) }) :
    wpAny (model prog w) A (setItem (.ref l) (.ref sl) (.ref b)) Q E s := by
  have hl : s.heap.IsList l items := PySem.IsL.isList e
  have hb : s.heap.IsList b new := PySem.IsL.isList e2
  obtain ⟨os, hos, hcs, hds⟩ := id hs
  have hTs : s.TypeIs (.ref sl) "slice" := ⟨os, hos, hcs⟩
  have hstep : ¬ ((rawPart none == rawInt 0) = true) := Bool.false_ne_true
  have hsame : Builtin.List.listSameRef (.ref l) (.ref b) = false := by
    unfold Builtin.List.listSameRef
    exact beq_eq_false_iff_ne.mpr hne
  have hmax : (max (a : Int) (c : Int)).toNat = c := by omega
  have hz' : ((fun xs : Array Value => xs.extract 0 a ++ new ++ xs.extract c xs.size) items).size ≤ sizeLine + 1 := by
    simp only [Array.size_append, Array.size_extract]
    omega
  unfold setItem
  try with_reducible refine wpAny_holding ?_
  first | refine wpAny_bind (wpAny_pure ?_) | skip
  refine wpAny_bind (wpAny_sequenceKey hl.typeIs (by decide) ?_)
  refine wpAny_bind (wpAny_callSpecial?_slot (name := Str.ofString "__setitem__") hl.typeIs slot_list_setitem
    (wpAny_call_entry slot_list_setitem hl.typeIs entry_list_setitem ?_ (args_list_setitem _ _ _)))
  show wpAny _ _ (Builtin.List.listSubscript? (.ref sl) >>= _) _ _ s
  refine wpAny_bind ?_
  unfold Builtin.List.listSubscript?
  refine wpAny_bind (wpAny_specialOf hTs slice_no_index ?_)
  simp only [Option.isNone_none, if_true]
  refine wpAny_pure ?_
  show wpAny _ _ (typeOf (.ref sl) >>= _) _ _ s
  refine wpAny_bind (wpAny_typeOf hTs ?_)
  first
    | rw [if_neg (by decide)]
    | refine PySem.W.KFB.if_not (by decide) ?_
  rw [listSliceParts_eq]
  refine wpAny_bind (wpAny_bind (wpAny_field hos hds (x := .none) rfl (wpAny_bind (wpAny_listPart .none ?_))))
  rw [if_neg hstep]
  refine wpAny_bind (wpAny_field hos hds (x := vl) rfl (wpAny_bind (wpAny_listPart pl ?_)))
  refine wpAny_bind (wpAny_field hos hds (x := vu) rfl (wpAny_bind (wpAny_listPart pu (wpAny_pure ?_))))
  first
    | simp only [hsame, Bool.false_eq_true, if_false]
    | refine PySem.W.KFB.if_not hsame ?_
    | (dsimp only
       rw [if_neg (by rw [hsame]; exact Bool.false_ne_true)])
  refine wpAny_bind (m := Builtin.List.listAllItems (.ref b) "must assign iterable to extended slice") ?_
  unfold Builtin.List.listAllItems
  refine wpAny_bind (wpAny_typeOf hb.typeIs ?_)
  first
    | refine PySem.W.KFB.if_so (by decide) ?_
    | rw [if_pos (by decide)]
    | simp only [beq_self_eq_true, Bool.true_or, if_true]
  unfold Builtin.List.listItems
  refine wpAny_bind (wpAny_seqItems e2 rfl (wpAny_pure ?_))
  refine wpAny_bind (wpAny_bind (wpAny_seqItems e rfl (wpAny_pure ?_)))
  refine wpAny_bind (wpAny_of_eq ((sliceIndices_raw (some (a : Int)) (some (c : Int)) none items.size (by simp)).trans (congrArg (pure : Int × Int × Int → Sem (Int × Int × Int)) (bounds_run hac hc))) ?_)
  show wpAny _ _ (if ((1 : Int) == 1) = true then _ else _) _ _ s
  rw [if_pos (by decide)]
  refine wpAny_bind (wpAny_rule ?_)
  first
    | simp only [notLongL hsz, Bool.false_eq_true, if_false]
    | refine PySem.W.KFB.if_not (notLongL hsz) ?_
  first | refine wpAny_bind (wpAny_pure ?_) | skip
  show wpAny _ _ (updateSeq l (fun xs => xs.extract 0 ((a : Int)).toNat ++ new ++ xs.extract (max (a : Int) (c : Int)).toNat xs.size) >>= _) _ _ s
  rw [hmax, Int.toNat_natCast]
  refine wpAny_bind (wpAny_updateSeq (hz := Nat.le_trans (Nat.le_add_right _ _) hsz) (_hz' := hz') e rfl ?_)
  refine wpAny_bind (wpAny_letGo ?_)
  first
    | exact wpAny_bind (wpAny_pure (wpAny_pure ⟨.none, rfl, wpAny_pure h⟩))
    | exact wpAny_pure ⟨.none, rfl, wpAny_pure h⟩
end

section
variable {X : Cx}
/-- xs[a:c] = ys of another list, at the value level: sl is the slice object that was just made -/
theorem set_slice {pins : List (Addr × Obj)} {s : Shared} {σ : St} {H : Hp} {l b sl : Addr} {xs ys : List V} {a c : Int} {vl vu : Value} {Q : Unit → Shared → Prop} (I : Inv X pins σ H s)
    (hH : H l = some (.lst xs)) (hB : H b = some (.lst ys)) (hne : l ≠ b) (hs : s.heap.IsSliceOf sl vl vu .none) (ra : RelV (.int a) vl) (rc : RelV (.int c) vu) (h0 : 0 ≤ a) (hac : a ≤ c) (hc : c ≤ xs.length)
    (hz : xs.length + ys.length ≤ sizeLine) (h : ∀ s', Inv X pins σ (upd H l (.lst (xs.take a.toNat ++ ys ++ xs.drop c.toNat))) s' → Q () s') :
    wpAny (model X.prog X.w) X.A (setItem (.ref l) (.ref sl) (.ref b)) Q X.xe s := by
  obtain ⟨ta, rfl⟩ := ra
  obtain ⟨tc, rfl⟩ := rc
  obtain ⟨z, its, n, r, hl, e⟩ := I.lstM hH
  obtain ⟨z2, its2, n2, r2, hl2, e2⟩ := I.lstM hB
  obtain ⟨a', rfl⟩ := Int.eq_ofNat_of_zero_le h0
  obtain ⟨c', rfl⟩ := Int.eq_ofNat_of_zero_le (Int.le_trans h0 hac)
  simp only [Int.toNat_natCast] at h
  refine setItem_slice (a := a') (c := c') e e2 hne hs (.int _ _) (.int _ _) (by omega) (by rw [List.size_toArray]; omega) (by rw [List.size_toArray, List.size_toArray]; omega) (h _ ?_)
  refine I.lset (its' := its.take a' ++ its2 ++ its.drop c') (t' := s.toks) hH e ?_ (Vals.append (Vals.append (r.take _) r2) (r.drop _)) ?_
  · exact splice_eq its its2 a' c'
  · rw [List.length_append, List.length_append, List.length_take, List.length_drop]
    omega
end
end L2

namespace Att
open PySem PySem.W PySem.Calls PyProof.Rows

/-! ### the script -/
theorem ints_of_wellAll {P : Params} {h : Heap} : ∀ (ns : List Int) (vs : List Value), WellAll P h vs (ns.map WData.int) → IntsAre vs ns := by
  intro ns
  induction ns with
  | nil =>
    intro vs w
    rw [List.map_nil] at w
    cases w
    exact .nil
  | cons n ns ih =>
    intro vs w
    rw [List.map_cons] at w
    cases w with
    | cons a b =>
      cases a
      exact .cons _ _ (ih _ b)

theorem script_of {l : OpenLaw} {n : Nat} (hn : l.most = some n) {P : Params} {h : Heap} {args : List WData} {vals : List Value}
    (hpre : l.row.toRowW.claim.pre args = true) (hwl : WellAll P h vals args) :
    ∃ a vs ns, vals = [Value.ref a] ∧ args = [WData.list (ns.map WData.int)] ∧ h.get? a = some { cls := .type "list", data := .seq vs.toArray } ∧ IntsAre vs ns ∧ ns.length ≤ n := by
  have hsh : WShape.hasAll [] args [.list .int] = true := (pre_splitW hpre).1
  have hc : l.pre.holds [] { args := args } = true := (pre_splitW hpre).2
  obtain ⟨d, r, rfl, h1, h2⟩ := hasAllW_cons hsh
  obtain rfl := hasAllW_nil h2
  obtain ⟨xs, rfl, h3⟩ := hasW_list h1
  obtain ⟨ns, rfl⟩ := items_int h3
  have hlen : ns.length ≤ n := by
    unfold OpenLaw.pre at hc
    have h4 : (WTm.not (.lt (.lit (.int (n : Int))) (.len (.arg 0)))).holds [] { args := [.list (ns.map .int)] } = true := by
      have h4 := (holds_andW hc).1
      rw [hn] at h4
      exact h4
    have h5 := condW_of h4 (w_not (w_lt w_lit (w_len_list (w_arg rfl))))
    rw [List.length_map] at h5
    refine Nat.le_of_not_lt fun q => ?_
    have q' : (n : Int) < ((ns.length : Nat) : Int) := by omega
    first
      | (rw [decide_eq_true q'] at h5; exact absurd h5 (by decide))
      | (simp at h5; omega)
  cases hwl with
  | cons w1 w2 =>
    cases w2
    cases w1 with
    | list ho hall => exact ⟨_, _, ns, rfl, rfl, ho, ints_of_wellAll ns _ hall, hlen⟩

theorem post_true (l : OpenLaw) (args : List WData) : l.row.toRowW.claim.post args (.bool true) args = true :=
  postW_of (r := l.row.toRowW) (X := (true == true))
    (show WShape.has [] (.bool true) .bool = true by first | rfl | decide | simp [WShape.has, WShape.arms, WShape.armsAll])
    (show (WTm.eq .res (.lit (.bool true))).value [] { args := args, res := some (.bool true), after := args } = some (.bool (true == true)) from w_eq_bool (w_res rfl) w_lit) rfl

/-! ### the attachment: holds_open's last premise (the goal 'hc' behind k_head) from a wpAny of the law's body -/
theorem attach {l : OpenLaw} {n : Nat} {q : Program} {loose : List Str} {XP : (Str → Option Value) → Heap → Prop} {YP : World → Heap → Prop} {d : DefRec} {x : Str}
    (hn : l.most = some n) (hdf : d.params.defaults = [])
    (hbind : ∀ pm cd doc v : Value, bindArgs (docDef d.name d.params d.body d.scope pm cd doc) ⟨[v], []⟩ = pure [(x, v)])
    (hx : d.scope.names.lookup x = some .local ∨ d.scope.names.lookup x = some .cell)
    (hk : d.scope.kind = .function) (hco : d.scope.isCoroutine = false) (hgen : d.scope.isGenerator = false)
    (body : ∀ (w : World) (s₀ s₁ s : Shared) (mg mb : Str → Option Value) (fa : Addr) (o : Obj) (pm cd doc : Value) (a : Addr) (vs : List Value) (ns : List Int),
      Ground q loose [] XP w s₀ mg mb s₁.heap → YP w s₁.heap →
      s₁.heap.get? fa = some o → o.data = .func (docDef d.name d.params d.body d.scope pm cd doc) → s₁.heap.CodeRec cd d.name → mg d.name = some (.ref fa) →
      s₁.heap.get? a = some { cls := .type "list", data := .seq vs.toArray } → IntsAre vs ns → ns.length ≤ n →
      s.gens = #[] → s.os = s₁.os →
      Fr s₁.heap s₁.heap.objs.size s.heap (bindL (envOfC d.name d.scope s₁.heap.objs.size fa cd).kindOf [(x, .ref a)] fun _ => none) →
      Cl s₁.heap.objs.size (cellsFrom (s₁.heap.objs.size + 1) d.scope.names []) s.heap (bindC (envOfC d.name d.scope s₁.heap.objs.size fa cd).kindOf [(x, .ref a)] fun _ => none) →
      wpAny (model l.prog w) (callerA.deeper (envOfC d.name d.scope s₁.heap.objs.size fa cd)) (execs d.body (envOfC d.name d.scope s₁.heap.objs.size fa cd))
        (fun f s' => f = .ret (.bool true) ∧ OldK s₁.heap s'.heap ∧ s'.os = s₁.os ∧ AllBare s'.gens) (fun _ _ => False) s) :
    WalkO q loose XP YP l.row.toRowW d [] (fun f vs => PySem.call f vs) := by
  intro w s₀ s₁ mg mb G Y fa o pm cd doc dV kV ho hd hcd hD hmg hg args vals as hpre hlay hrd hwl hlo
  obtain rfl : dV = .none := Dflts.none hD hdf
  obtain rfl : kV = .none := Dflts.noKw hD
  obtain ⟨a, vs, ns, rfl, rfl, hobj, hints, hlen⟩ := script_of hn hpre hwl
  refine enter_call ?_
  refine call_cells_ret (o := o) (by rw [depth_caller]; decide) ho (fd_plain hd) G.T.nolimit hcd (hbind pm cd doc (.ref a)) (fun y hy => ?_) (fun h₁ tk F X => ?_) hco hgen hk
  · obtain rfl : y = (x, Value.ref a) := List.mem_singleton.mp hy
    rcases hx with e | e
    · exact .inl e
    · exact .inr ⟨e, cellsFrom_some _ _ _ (.inl e)⟩
  · refine wpAny_mono (body w s₀ s₁ { s₁ with heap := h₁, toks := tk } mg mb fa o pm cd doc a vs ns G Y ho (fd_plain hd) hcd hmg hobj hints hlen hg rfl F X) (fun f s' hq => ?_) (fun _ _ hq => hq)
    obtain ⟨rfl, h2, h3, h4⟩ := hq
    exact ⟨.inl ⟨.bool true, .bool true, [], rfl, fun _ => rfl, .bool true, post_true l _, fun _ => ⟨List.Pairwise.nil, fun _ hm => (nomatch hm)⟩⟩, h2, h3, h4⟩

/-- the same from a codeAny of the CALL (for a layer whose function contracts speak of calls) -/
theorem attach_call {l : OpenLaw} {n : Nat} {q : Program} {loose : List Str} {XP : (Str → Option Value) → Heap → Prop} {YP : World → Heap → Prop} {d : DefRec}
    (hn : l.most = some n) (hdf : d.params.defaults = [])
    (call : ∀ (w : World) (s₀ s₁ : Shared) (mg mb : Str → Option Value) (fa : Addr) (o : Obj) (pm cd doc : Value) (a : Addr) (vs : List Value) (ns : List Int),
      Ground q loose [] XP w s₀ mg mb s₁.heap → YP w s₁.heap →
      s₁.heap.get? fa = some o → o.data = .func (docDef d.name d.params d.body d.scope pm cd doc) → s₁.heap.CodeRec cd d.name → mg d.name = some (.ref fa) →
      s₁.heap.get? a = some { cls := .type "list", data := .seq vs.toArray } → IntsAre vs ns → ns.length ≤ n → s₁.gens = #[] →
      codeAny (model l.prog w) callerA (.call (.ref fa) ⟨[.ref a], []⟩) (fun r s' => r = .ok (.ret (.bool true)) ∧ OldK s₁.heap s'.heap ∧ s'.os = s₁.os ∧ AllBare s'.gens) s₁) :
    WalkO q loose XP YP l.row.toRowW d [] (fun f vs => PySem.call f vs) := by
  intro w s₀ s₁ mg mb G Y fa o pm cd doc dV kV ho hd hcd hD hmg hg args vals as hpre hlay hrd hwl hlo
  obtain rfl : dV = .none := Dflts.none hD hdf
  obtain rfl : kV = .none := Dflts.noKw hD
  obtain ⟨a, vs, ns, rfl, rfl, hobj, hints, hlen⟩ := script_of hn hpre hwl
  refine enter_call (codeAny_mono (call w s₀ s₁ mg mb fa o pm cd doc a vs ns G Y ho (fd_plain hd) hcd hmg hobj hints hlen hg) fun r s' hq => ?_)
  obtain ⟨rfl, h2, h3, h4⟩ := hq
  exact ⟨.inl ⟨.bool true, .bool true, [], rfl, fun _ => rfl, .bool true, post_true l _, fun _ => ⟨List.Pairwise.nil, fun _ hm => (nomatch hm)⟩⟩, h2, h3, h4⟩

/-- the same where the top left finished generators (o_head chose holds_openN): nothing may have changed at all and no generator may be left -/
theorem attachN {l : OpenLaw} {n : Nat} {q : Program} {loose : List Str} {XP : (Str → Option Value) → Heap → Prop} {YP : World → Heap → Prop} {d : DefRec} {x : Str}
    (hn : l.most = some n) (hdf : d.params.defaults = [])
    (hbind : ∀ pm cd doc v : Value, bindArgs (docDef d.name d.params d.body d.scope pm cd doc) ⟨[v], []⟩ = pure [(x, v)])
    (hx : d.scope.names.lookup x = some .local ∨ d.scope.names.lookup x = some .cell)
    (hk : d.scope.kind = .function) (hco : d.scope.isCoroutine = false) (hgen : d.scope.isGenerator = false)
    (body : ∀ (w : World) (s₀ s₁ s : Shared) (mg mb : Str → Option Value) (fa : Addr) (o : Obj) (pm cd doc : Value) (a : Addr) (vs : List Value) (ns : List Int),
      Ground q loose [] XP w s₀ mg mb s₁.heap → YP w s₁.heap →
      s₁.heap.get? fa = some o → o.data = .func (docDef d.name d.params d.body d.scope pm cd doc) → s₁.heap.CodeRec cd d.name → mg d.name = some (.ref fa) →
      s₁.heap.get? a = some { cls := .type "list", data := .seq vs.toArray } → IntsAre vs ns → ns.length ≤ n →
      s.gens = #[] → s.os = s₁.os →
      Fr s₁.heap s₁.heap.objs.size s.heap (bindL (envOfC d.name d.scope s₁.heap.objs.size fa cd).kindOf [(x, .ref a)] fun _ => none) →
      Cl s₁.heap.objs.size (cellsFrom (s₁.heap.objs.size + 1) d.scope.names []) s.heap (bindC (envOfC d.name d.scope s₁.heap.objs.size fa cd).kindOf [(x, .ref a)] fun _ => none) →
      wpAny (model l.prog w) (callerA.deeper (envOfC d.name d.scope s₁.heap.objs.size fa cd)) (execs d.body (envOfC d.name d.scope s₁.heap.objs.size fa cd))
        (fun f s' => f = .ret (.bool true) ∧ (∀ b o, s₁.heap.get? b = some o → s'.heap.get? b = some o) ∧ s'.os = s₁.os ∧ s'.gens = #[]) (fun _ _ => False) s) :
    WalkN q loose XP YP l.row.toRowW d [] (fun f vs => PySem.call f vs) := by
  intro w s₀ s₁ mg mb G Y fa o pm cd doc dV kV ho hd hcd hD hmg hg args vals as hpre hlay hrd hwl hlo
  obtain rfl : dV = .none := Dflts.none hD hdf
  obtain rfl : kV = .none := Dflts.noKw hD
  obtain ⟨a, vs, ns, rfl, rfl, hobj, hints, hlen⟩ := script_of hn hpre hwl
  refine enter_callW ?_
  refine call_cells_ret (o := o) (by rw [depth_caller]; decide) ho (fd_plain hd) G.T.nolimit hcd (hbind pm cd doc (.ref a)) (fun y hy => ?_) (fun h₁ tk F X => ?_) hco hgen hk
  · obtain rfl : y = (x, Value.ref a) := List.mem_singleton.mp hy
    rcases hx with e | e
    · exact .inl e
    · exact .inr ⟨e, cellsFrom_some _ _ _ (.inl e)⟩
  · refine wpAny_mono (body w s₀ s₁ { s₁ with heap := h₁, toks := tk } mg mb fa o pm cd doc a vs ns G Y ho (fd_plain hd) hcd hmg hobj hints hlen hg rfl F X) (fun f s' hq => ?_) (fun _ _ hq => hq)
    obtain ⟨rfl, h2, h3, h4⟩ := hq
    exact ⟨.inl ⟨.bool true, .bool true, [], rfl, fun _ => rfl, .bool true, post_true l _, fun _ => ⟨List.Pairwise.nil, fun _ hm => (nomatch hm)⟩⟩, h2, h3, h4⟩

/-! ### rules over ANY heap (no ledger) from facts about the written part K: the library's own take a ledger (News) for what they write -/
section
variable {prog : Program} {w : World} {A : Around} {E : Value → Shared → Prop} {s : Shared} {K : Frag}

/-- a def of the module, or a method (qual 'C.m'), entered: the frame is the next address; cells behind it -/
theorem call_fn {R : Result → Shared → Prop} {name qual : Str} {params : Arguments} {body : List Stmt} {scope : Scope} {dV kV doc pm cdv ct oc : Value} {an od : Option Addr} {osl : Array (Option Value)} {f : Addr} {args : Args} {binds : List (Str × Value)}
    (X : K.In s.heap) (hlim : s.heap.NoLimit) (ho : K.lookup f = some ⟨oc, od, .func (fnOf name qual params body scope dV kV doc pm an cdv ct), osl⟩) (hcd : codeIn K cdv qual = true) (hroom : A.depth < recursionLimit)
    (hbind : BindsTo s (fnOf name qual params body scope dV kV doc pm an cdv ct) args binds)
    (hkind : (binds.all fun y => scope.names.lookup y.1 == some .local || scope.names.lookup y.1 == some .cell) = true)
    (h : ∀ s₁, InCallC s s.heap.objs.size (bindL (envOfC qual scope s.heap.objs.size f cdv).kindOf binds fun _ => none) (cellsFrom (s.heap.objs.size + 1) scope.names [])
        (bindC (envOfC qual scope s.heap.objs.size f cdv).kindOf binds fun _ => none) s₁ →
      wpAny (model prog w) (A.deeper (envOfC qual scope s.heap.objs.size f cdv)) (execs body (envOfC qual scope s.heap.objs.size f cdv))
        (fun fl s' => R (.ok (.ret (match fl with | .ret v => v | _ => .none))) s')
        (fun e s' => wpAny (model prog w) (A.deeper (envOfC qual scope s.heap.objs.size f cdv)) (leaving (envOfC qual scope s.heap.objs.size f cdv) e) (fun _ s'' => R (.error e) s'') (fun e' s'' => R (.error e') s'') s') s₁)
    (hco : scope.isCoroutine = false) (hgen : scope.isGenerator = false) (hk : scope.kind = .function) : codeAny (model prog w) A (.call (.ref f) args) R s := by
  refine codeAny_call_function hroom (X _ _ ho) rfl hco hgen rfl (codeRec_of X hcd) (hbind _ _ _ _ ?_)
  refine wpAny_newFunctionEnv_cells hk (kindsX hkind _) fun env he s₁ x => ?_
  subst he
  exact ⟨hlim.keeps x.toInCall.keep, codeAny_func (h s₁ x)⟩

/-- C(..): dict at size, instance at size + 1, then __init__ -/
theorem make_obj {R : Result → Shared → Prop} {C fI : Addr} {rest : List Value} {kw : List (Str × Value)}
    (X : K.In s.heap) (hm : makesIn K C = true) (hi : findIn K (.ref C) "__init__" = some (some (.ref fI))) (hf : isFn K (.ref fI) = true)
    (h : codeAny (model prog w) (A.under (.builtin "type.__call__" ⟨.ref C :: rest, kw⟩)) (.call (.ref fI) ⟨.ref (s.heap.objs.size + 1) :: rest, kw⟩) (InitBack (s.heap.objs.size + 1) R)
      { s with heap := (s.heap.push emptyDict).push (instObj C s.heap.objs.size) }) : codeAny (model prog w) A (.call (.ref C) ⟨rest, kw⟩) R s := by
  obtain ⟨hh, g, d, t, os⟩ := s
  exact make_core (makes_of X hm) (looks_findIn X hi) (fun self => bind_fn X self (beq_iff_eq.mp hf)) (.inl rfl) h

/-- x.name where the instance's dict holds the name and the class does not -/
theorem get_field {x C : Addr} {ox : Obj} {es : List DictEntry} {n : Nat} {name : Str} {expr : Bool} {v : Value} {Q : Value → Shared → Prop}
    (X : K.In s.heap) (I : PySem.W.InstAt s.heap x ox C (some (dictOf es n))) (hg : plainGet K C name = true) (hh : hasDictIn K C = true) (ha : findIn K (.ref C) name = some none)
    (hl : getL name es = some (some v)) (hv : handedIn v = true) (h : Q v { s with toks := s.toks + 1 }) : wpAny (model prog w) A (getAttr (.ref x) name expr) Q E s :=
  get_value X I (plainGet_of hg).1 (findObj_own hh ha rfl hl) hv h

/-- x.m(..): the method found in the class -/
theorem get_method {x C f : Addr} {ox : Obj} {es : List DictEntry} {n : Nat} {name : Str} {pl : Sem Bool} {Q : Value × List Value → Shared → Prop}
    (X : K.In s.heap) (I : PySem.W.InstAt s.heap x ox C (some (dictOf es n))) (hg : plainGet K C name = true) (hf : findIn K (.ref C) name = some (some (.ref f))) (ht : isFn K (.ref f) = true)
    (hl : getL name es = some none) (h : Q (.ref f, [.ref x]) s) : wpAny (model prog w) A (getMethod (.ref x) name pl) Q E s :=
  method_fn X I (plainGet_of hg).1 (plainGet_of hg).2 hf (beq_iff_eq.mp ht) (by show (lookIn name (dictOf es n)).map _ = _; rw [lookIn_dict, hl]; rfl) h

/-! the whole heap as the ledger: makes every rule that writes through a ledger a rule over any heap -/
def noObjs (h : Heap) : Heap := { h with objs := #[] }
theorem noObjs_get (h : Heap) (b : Addr) : (noObjs h).get? b = none := by
  cases e : (noObjs h).get? b with
  | none => rfl
  | some o => exact absurd (Heap.lt_size e) (Nat.not_lt_zero _)
def ledger (h : Heap) (L d : Addr) : List (Addr × Obj) := (List.range h.objs.size).filterMap fun a => if a = L ∨ a = d then none else (h.get? a).map fun o => (a, o)
theorem mem_ledger {h : Heap} {L d a : Addr} {o : Obj} : (a, o) ∈ ledger h L d ↔ a ≠ L ∧ a ≠ d ∧ h.get? a = some o := by
  unfold ledger
  rw [List.mem_filterMap]
  constructor
  · rintro ⟨b, _, e⟩
    split at e
    · cases e
    · rename_i hb
      obtain ⟨o', ho, e'⟩ := Option.map_eq_some_iff.mp e
      cases e'
      exact ⟨fun q => hb (.inl q), fun q => hb (.inr q), ho⟩
  · rintro ⟨n1, n2, ho⟩
    refine ⟨a, List.mem_range.mpr (Heap.lt_size ho), ?_⟩
    rw [if_neg (show ¬ (a = L ∨ a = d) from fun q => q.elim n1 n2), ho] <;> rfl
theorem news_ledger {h : Heap} {L d : Addr} {od : Obj} (hne : d ≠ L) (ho : h.get? d = some od) : News (noObjs h) L h ([] ++ (d, od) :: ledger h L d) := by
  rintro ⟨a, o⟩ hp
  rcases List.mem_cons.mp hp with e | hp
  · cases e
    exact ⟨ho, hne, noObjs_get _ _⟩
  · obtain ⟨n1, n2, e⟩ := mem_ledger.mp hp
    exact ⟨e, n1, noObjs_get _ _⟩
theorem fr_all {h : Heap} {L : Addr} {m : Str → Option Value} (n : h.Ns L m) : Fr (noObjs h) L h m :=
  ⟨n, fun b o e => (by rw [noObjs_get] at e; cases e), Nat.zero_le _⟩
/-- Upd of the head entry (for append_K, setItem_K ..) -/
theorem upd_ledger {h : Heap} {L d : Addr} {o o' : Obj} : Upd d o o' ((d, o) :: ledger h L d) ((d, o') :: ledger h L d) :=
  .head fun ⟨_, _⟩ hp => (mem_ledger.mp hp).2.1

/-- x.name = v over any heap: L is any namespace of the heap (the frame's, say): its map stays, its object is not told; all else but the dict stays -/
theorem set_field {x C dx L : Addr} {ox : Obj} {m : Str → Option Value} {es es' : List DictEntry} {n n' : Nat} {name : Str} {v : Value} {Q : Unit → Shared → Prop}
    (X : K.In s.heap) (I : PySem.W.InstAt s.heap x ox C (some (dictOf es n))) (hd : ox.dict = some dx) (hL : s.heap.Ns L m) (hne : dx ≠ L)
    (hs : findIn K (.ref C) "__setattr__" = some (some (.builtin "object.__setattr__"))) (hp : plainOver K C = true) (ht : takerIn K C name = some none) (hh : hasDictIn K C = true) (hl : (getL name es).isSome = true)
    (e : (putL name (PyData.keyHash w.params name) (.str name (s.toks + 1)) v es, putN name es n) = (es', n')) (hz : es'.length ≤ 1000)
    (h : ∀ h' : Heap, h'.Ns L m → h'.get? dx = some (dictOf es' n') → (∀ b o, b ≠ dx → b ≠ L → s.heap.get? b = some o → h'.get? b = some o) → Q () { s with heap := h', toks := s.toks + 2 }) :
    wpAny (model prog w) A (setAttr (.ref x) name v) Q E s := by
  obtain ⟨e1, e2⟩ := Prod.mk.inj e
  have hdx : s.heap.get? dx = some (dictOf es n) := by
    have := I.dict
    rw [hd] at this
    exact this
  refine set_plain X I hs (osa_dict (s := { s with toks := s.toks + 1 }) (h₀ := noObjs s.heap) (L := L) (m := m) (od := dictOf es n) (od' := dictOf es' n') (es := es') (n := n') (pre := []) (post := ledger s.heap L dx)
    (fr_all hL) (news_ledger hne hdx) X I hd hp ht hh hl (fun _ q => nomatch q) (fun ⟨_, _⟩ q => (mem_ledger.mp q).2.1) (by rw [putName_dict, e1, e2]) rfl hz fun h' F' N' => ?_)
  exact h h' F'.ns (N'.get (List.Mem.head _)) fun b o n1 n2 ho => N'.get (List.Mem.tail _ (mem_ledger.mpr ⟨n2, n1, ho⟩))
end
end Att

namespace L2
open PySem PySem.Spec PyProof.Rows

theorem vals_ints : ∀ {vs : List Value} {ns : List Int}, IntsAre vs ns → Vals (ns.map V.int) vs
  | _, _, .nil => .nil
  | _, _, .cons n t h => .cons ⟨t, rfl⟩ (vals_ints h)

/-- nothing is tracked but the script, known to the object (or it is an object of the module) -/
def Only (H : Hp) : Prop := ∀ b, H b = none ∨ ∃ o xs, H b = some (.frz o (.lst xs))

/-- THE HEAD: the law's promise, at the heap behind the top. F, the promise of the law's def, may use that base is part of the heap (so K.In base, base.Ns mainGlobals mg stand in Mod) -/
theorem law_call {P : Program} {w : World} {K : PySem.W.Frag} {mg mb : Str → Option Value} {CX : CXT} {k : Nat} {fa a : Addr} {fd : FuncData} {x : Str} {sp : Sp} {s₁ : Shared} {vs : List Value} {ns : List Int}
    (KX : K.In s₁.heap) (hns : s₁.heap.Ns mainGlobals mg) (hb : s₁.heap.Ns builtinsNs mb) (hbb : ∀ x : Str, x ≠ "__name__" → mb x = bootBuiltins x) (hlim : s₁.heap.NoLimit) (hg : s₁.gens = #[])
    (ha : s₁.heap.get? a = some { cls := .type "list", data := .seq vs.toArray }) (hi : IntsAre vs ns) (hl : ns.length ≤ sizeLine) (hr : Room k callerA)
    (F : ∀ base : Heap, K.In base → base.Ns mainGlobals mg → FnOk P w K mg base CX k fa fd [x] sp) (hbind : ∀ (s : Shared) (u : Value), BindsTo s fd ⟨[u], []⟩ [(x, u)])
    (hsp : ∀ H : Hp, Only H → SqL K H a (ns.map V.int) → sp [.ref a] H (fun v _ => v = .bl true) fun _ _ _ => False)
    (hCX : ∀ H e s', CX [] H s₁ (fun _ _ _ => False) e s' → False) :
    codeAny (model P w) callerA (.call (.ref fa) ⟨[.ref a], []⟩) (fun r s' => r = .ok (.ret (.bool true)) ∧ OldK s₁.heap s'.heap ∧ s'.os = s₁.os ∧ AllBare s'.gens) s₁ := by
  have rv := vals_ints hi
  have lenV := hi.length
  -- from an abstract heap in which nothing but the script may be tracked
  have core : ∀ H : Hp, Only H → SqL K H a (ns.map V.int) → HOk P w H s₁.heap → (∀ b, H b ≠ none → b = a) → (H a ≠ none → K.lookup a = none) →
      codeAny (model P w) callerA (.call (.ref fa) ⟨[.ref a], []⟩) (fun r s' => r = .ok (.ret (.bool true)) ∧ OldK s₁.heap s'.heap ∧ s'.os = s₁.os ∧ AllBare s'.gens) s₁ := by
    intro H hO hS hok hA hK
    have base_of : ∀ {b : Addr} {o : Obj}, s₁.heap.get? b = some o → H b = none → (hidT s₁.heap H).get? b = some o := fun e n => hidT_get e n
    have noA : ∀ {b : Addr} {o : Obj} {es : Array DictEntry} {ep : Nat}, s₁.heap.get? b = some o → o.data = .dict es ep → H b = none := fun {b o es ep} e d => by
      cases q : H b with
      | none => rfl
      | some u =>
        have e' : b = a := hA b (by rw [q]; simp)
        subst e'
        rw [ha] at e; cases e
        have d' : Data.seq vs.toArray _ = Data.dict es ep := d
        cases d'
    have nsK : ∀ {b : Addr} {m : Str → Option Value}, s₁.heap.Ns b m → (hidT s₁.heap H).Ns b m := fun {b m} ⟨o, es, ep, e, d, r⟩ => ⟨o, es, ep, base_of e (noA e d), d, r⟩
    have hKb : K.In (hidT s₁.heap H) := fun b o e => base_of (KX b o e) (by
      cases q : H b with
      | none => rfl
      | some u =>
        have e' : b = a := hA b (by rw [q]; simp)
        subst e'
        rw [hK (by rw [q]; simp)] at e; cases e)
    have hM : Mod K mg (hidT s₁.heap H) := ⟨hKb, nsK hns, ⟨mb, nsK hb, hbb⟩, let ⟨mc, h1, h2⟩ := hlim; ⟨mc, nsK h1, h2⟩⟩
    have e0 : Env0 P w K mg (hidT s₁.heap H) callerA [] s₁ H := ⟨rfl, hM, fun b o e => of_hidT e, Nat.le_of_eq (hidT_size _ _), trivial, fun b hb => absurd (show b ∈ ([] : List Addr) from hb) (by simp), hok, .of_eq hg⟩
    refine codeAny_mono ((F _ hKb (nsK hns)).run callerA [] s₁ H ⟨[.ref a], []⟩ [.ref a] [.ref a] _ _ hr e0 (hbind s₁ (.ref a)) (.cons rfl .nil) (hsp H hO hS)) fun r s' h => ?_
    cases r with
    | error e => exact (hCX H e s' h).elim
    | ok fl =>
      cases fl with
      | next => exact False.elim h
      | brk => exact False.elim h
      | cont => exact False.elim h
      | ret u =>
        obtain ⟨v, H', os, bare, un, hok', r', q⟩ := h
        have q' : v = .bl true := q
        subst q'
        obtain rfl : u = Value.bool true := r'
        refine ⟨rfl, OldK.of_keep fun b o e => ?_, os, bare⟩
        cases q : H b with
        | none => exact un.keep b o e q (by intro z; exact absurd (show b ∈ ([] : List Addr) from z) (by simp)) (by simp)
        | some u =>
          rcases hO b with z | ⟨ob, xs, z⟩
          · rw [q] at z; cases z
          · have z2 := un.frzs b ob _ z
            obtain ⟨e1, _⟩ := hok b _ z
            obtain ⟨e2, _⟩ := hok' b _ z2
            rw [e] at e1; cases e1
            exact e2
  cases hk : K.lookup a with
  | some o =>
    -- the script is one of the module's own objects
    have e := KX a o hk
    rw [ha] at e
    cases e
    refine core (fun _ => none) (fun _ => .inl rfl) (.inr ⟨_, vs.toArray, _, hk, rfl, rfl, rfl, by rw [List.size_toArray, lenV]; exact hl, by simpa using rv⟩) (fun b u z => by have z' : (none : Option HO) = some u := z; cases z') (fun b z => absurd rfl z) fun z => absurd rfl z
  | none =>
    refine core (fun b => if b = a then some (.frz { cls := .type "list", data := .seq vs.toArray } (.lst (ns.map V.int))) else none) (fun b => ?_) (.inl (.inr ⟨{ cls := .type "list", data := .seq vs.toArray }, if_pos rfl⟩)) (fun b u z => ?_) (fun b z => ?_) fun _ => hk
    · by_cases hb : b = a
      · exact .inr ⟨_, _, if_pos hb⟩
      · exact .inl (if_neg hb)
    · by_cases hb : b = a
      · have z' := (if_pos hb).symm.trans z
        cases z'
        subst hb
        exact ⟨ha, by rw [List.length_map]; exact hl, vs, _, rv, ha⟩
      · have z' := (if_neg hb).symm.trans z
        cases z'
    · by_cases hb : b = a
      · exact hb
      · exact absurd (if_neg hb) z
end L2

namespace L2
open PySem PySem.Spec PyProof.Rows

abbrev KOf {K : PySem.W.Frag} {h : Heap} (_ : K.In h) : PySem.W.Frag := K

/-- the goal that k_head leaves (case hc), from the law's promise. F gives the function object fd (K's own) once, then the promise over every base -/
theorem walk_of {l : PySem.W.OpenLaw} {n k : Nat} {q : Program} {loose : List Str} {XP : (Str → Option Value) → Heap → Prop} {YP : World → Heap → Prop} {d : DefRec} {K : Params → PySem.W.Frag} {CX : World → CXT} {sp : World → Sp} {x : Str}
    (hn : l.most = some n) (hn2 : n ≤ sizeLine) (hdf : d.params.defaults = []) (hr : Room k callerA)
    (hY : ∀ (w : World) (h : Heap), YP w h → (K w.params).In h)
    (F : ∀ (w : World) (mg : Str → Option Value) (fa : Addr) (h : Heap), (K w.params).In h → h.Ns mainGlobals mg → mg d.name = some (.ref fa) →
      ∃ fd : FuncData, (∀ (s : Shared) (u : Value), BindsTo s fd ⟨[u], []⟩ [(x, u)]) ∧
        ∀ base : Heap, (K w.params).In base → base.Ns mainGlobals mg → FnOk l.prog w (K w.params) mg base (CX w) k fa fd [x] (sp w))
    (hsp : ∀ (w : World) (H : Hp) (a : Addr) (ns : List Int), ns.length ≤ n → Only H → SqL (K w.params) H a (ns.map V.int) → sp w [.ref a] H (fun v _ => v = .bl true) fun _ _ _ => False)
    (hCX : ∀ (w : World) (H : Hp) (s : Shared) (e : Value) (s' : Shared), CX w [] H s (fun _ _ _ => False) e s' → False) :
    PySem.W.WalkO q loose XP YP l.row.toRowW d [] (fun f vs => PySem.call f vs) := by
  refine Att.attach_call hn hdf fun w s₀ s₁ mg mb fa o pm cd doc a vs ns G Y ho hd hcd hmg hobj hints hlen hg => ?_
  have KX := hY w _ Y
  obtain ⟨fd, hb, hF⟩ := F w mg fa _ KX G.T.g hmg
  exact law_call KX G.T.g G.T.b G.T.builtins G.T.nolimit hg hobj hints (Nat.le_trans hlen hn2) hr hF hb (fun H hO hS => hsp w H a ns hlen hO hS) fun H e s' => hCX w H s₁ e s'
/-- the same where the promise hangs on the written part alone: (sp := My.sp_law), no hole under a binder -/
theorem walk_ofK {l : PySem.W.OpenLaw} {n k : Nat} {q : Program} {loose : List Str} {XP : (Str → Option Value) → Heap → Prop} {YP : World → Heap → Prop} {d : DefRec} {K : Params → PySem.W.Frag} {CX : CXT} {sp : PySem.W.Frag → Sp} {x : Str}
    (hn : l.most = some n) (hn2 : n ≤ sizeLine) (hdf : d.params.defaults = []) (hr : Room k callerA)
    (hY : ∀ (w : World) (h : Heap), YP w h → (K w.params).In h)
    (F : ∀ (w : World) (mg : Str → Option Value) (fa : Addr) (h : Heap), (K w.params).In h → h.Ns mainGlobals mg → mg d.name = some (.ref fa) →
      ∃ fd : FuncData, (∀ (s : Shared) (u : Value), BindsTo s fd ⟨[u], []⟩ [(x, u)]) ∧
        ∀ base : Heap, (K w.params).In base → base.Ns mainGlobals mg → FnOk l.prog w (K w.params) mg base CX k fa fd [x] (sp (K w.params)))
    (hsp : ∀ (K : PySem.W.Frag) (H : Hp) (a : Addr) (ns : List Int), ns.length ≤ n → Only H → SqL K H a (ns.map V.int) → sp K [.ref a] H (fun v _ => v = .bl true) fun _ _ _ => False)
    (hCX : ∀ (H : Hp) (s : Shared) (e : Value) (s' : Shared), CX [] H s (fun _ _ _ => False) e s' → False) :
    PySem.W.WalkO q loose XP YP l.row.toRowW d [] (fun f vs => PySem.call f vs) :=
  walk_of (K := K) (CX := fun _ => CX) (sp := fun w => sp (K w.params)) hn hn2 hdf hr hY F (fun w H a ns h1 h2 h3 => hsp (K w.params) H a ns h1 h2 h3) fun _ H s e s' => hCX H s e s'
end L2

/- THE LAST THEOREM (shape; LID, My.* are yours):
   My.Adr: a structure of the addresses that your layer names (classes, functions); My.Txt K t: a structure (Prop) of the equations over K;
   My.txt_mk : {K} {implicit addresses ..} (e1 : nsIn K mainGlobals "law" = some (some (.ref f))) (e2 : K.lookup f = some ⟨oc, od, .func (fnOf "law" "law" params body scope dV kV doc pm an cdv ct), sl⟩) (e3 : codeIn K cdv "law" = true) .. : ∃ t, My.Txt K t

set_option maxRecDepth 100000 in
set_option maxHeartbeats 0 in
theorem PySem.Challenge.cw_LID_holds : PySem.Challenge.rw_LID.Holds := by
  w_on; o_law; k_head; (case hw => w_witness2)
  k_fill
  refine L2.walk_of (l := PySem.Challenge.rw_LID) (n := 63) (k := 40) (x := "script") (CX := fun w => ..) (sp := fun _ => My.sp_law) rfl (by decide) rfl ⟨rfl, by decide, by decide⟩ (fun w h Y => PySem.W.kIn_of Y) ?F ?S ?C
  case F =>
    intro w mg fa h KX G hmg
    have T : ∃ t, My.Txt (L2.KOf KX) t := by
      dsimp only [L2.KOf]                          -- K must stand as «<heap const> w.params» for k_is
      refine' My.txt_mk ?e1 ?e2 ?e3 ..
      (case e1 => PySem.W.k_is)                    -- in the order: a name -> its address -> its object -> its parts
      (case e2 => PySem.W.k_is)
      ..
    obtain ⟨t, T⟩ := T
    have e0 := hmg.symm.trans (PySem.W.mg_of KX G T.law)
    cases e0                                       -- fa is the law's own address
    exact ⟨_, fun s u => .of_eq rfl, fun base kb nb => My.law_fn T kb nb⟩     -- if «.of_eq rfl» comes too early: refine' ⟨_, ?b, fun base kb nb => My.law_fn T kb nb⟩; exact fun s u => .of_eq rfl
  case S => exact fun w H a ns hl hO hS => ..
  case C => exact ..
(the tactic k_is has no namespace: write k_is) -/

/-! SHORT WORDS over the layer: a def of the text, its body, what a loop and a test want. -/
namespace L2
open PySem PySem.Spec PyProof.Rows

/-! ### the text by places -/
/-- the j-th statement of a class's body -/
def inClass (s : Stmt) (j : Nat) : Stmt := match s with
  | .ClassDef _ _ _ body _ _ _ _ _ _ _ => body.getD j (.Pass ⟨0, 0, 0, 0⟩)
  | _ => .Pass ⟨0, 0, 0, 0⟩
def defArgs (s : Stmt) : Arguments := match s with
  | .FunctionDef _ a _ _ _ _ _ _ _ _ => a
  | _ => { posonlyargs := [], args := [], vararg := none, kwonlyargs := [], kw_defaults := [], kwarg := none, defaults := [] }
def defBody (s : Stmt) : List Stmt := match s with
  | .FunctionDef _ _ b _ _ _ _ _ _ _ => b
  | _ => []
def defScope (s : Stmt) : Scope := match s with
  | .FunctionDef _ _ _ _ _ _ sc _ _ _ => sc
  | _ => { kind := .function, names := [], isGenerator := false, isCoroutine := false }

/-! ### no exception leaves a def -/
abbrev CX0 : CXT := fun _ _ _ _ _ _ => False
abbrev E0 : XK := fun _ _ _ => False
theorem pass0 {X : Cx} : Passes CX0 X E0 := fun _ _ _ _ _ _ _ h => h.elim

/-! ### a def (or method) of the text as it stands behind the top -/
structure Fun (K : PySem.W.Frag) (x qual : Str) (st : Stmt) (f : Addr) (fd : FuncData) : Prop where
  ex : ∃ (oc : Value) (od : Option Addr) (kV doc pm : Value) (an : Option Addr) (cdv ct : Value) (osl : Array (Option Value)),
    fd = PySem.W.fnOf x qual (defArgs st) (defBody st) (defScope st) .none kV doc pm an cdv ct ∧ K.lookup f = some ⟨oc, od, .func fd, osl⟩ ∧ PySem.W.codeIn K cdv qual = true
  kp : PySem.W.keepIn K (.ref f) = true
section
variable {P : Program} {w : World} {K : PySem.W.Frag} {mg : Str → Option Value} {base : Heap}
/-- THE RULE for a def: its body as a term of rules, and the reading of that term -/
theorem Fun.ok {x qual : Str} {st : Stmt} {f : Addr} {fd : FuncData} {N ps : List Str} {k : Nat} {sp : Sp} (F : Fun K x qual st f fd) (S : FnScope N ps (defScope st)) (len : ∀ vs H Q E, sp vs H Q E → vs.length = ps.length)
    (hbody : ∀ (cdv : Value) (A : Around) (outer : List Env) (s : Shared) (H : Hp) (vs : List V) (Q : VK) (E : XK), Room k (A.deeper (envOfC qual (defScope st) s.heap.objs.size f cdv)) → sp vs H Q E →
      ∃ t, PSs (cxOf CX0 P w K mg base N qual (defScope st) f cdv A outer s H E).nox (defBody st) t ∧ t { nx := fun _ H' => Q .non H', rt := Q } (start N vs) H) : FnOk P w K mg base CX0 (k + 1) f fd ps sp := by
  obtain ⟨oc, od, kV, doc, pm, an, cdv, ct, osl, rfl, lk, hcd⟩ := F.ex
  refine fn_of lk hcd S len fun A outer s H vs Q E hr hsp => ?_
  obtain ⟨t, h, q⟩ := hbody cdv A outer s H vs Q E hr hsp
  exact ⟨t, h.nox, q⟩
/-- how its arguments bind (no defaults): h is «fun _ _ _ _ _ _ us hl => match us, hl with | [_, _], _ => rfl», one _ a parameter -/
theorem Fun.binds {x qual : Str} {st : Stmt} {f : Addr} {fd : FuncData} {ps : List Str} (F : Fun K x qual st f fd)
    (h : ∀ (kV doc pm : Value) (an : Option Addr) (cdv ct : Value) (us : List Value), us.length = ps.length → bindArgs (PySem.W.fnOf x qual (defArgs st) (defBody st) (defScope st) .none kV doc pm an cdv ct) ⟨us, []⟩ = pure (ps.zip us)) : Binds K fd ps [] := by
  obtain ⟨oc, od, kV, doc, pm, an, cdv, ct, osl, rfl, lk, hcd⟩ := F.ex
  exact .all (h kV doc pm an cdv ct)
theorem fun_mk {x qual : Str} {st : Stmt} {f : Addr} {oc : Value} {od an : Option Addr} {osl : Array (Option Value)} {kV doc pm cdv ct : Value} (l : K.lookup f = some ⟨oc, od, .func (PySem.W.fnOf x qual (defArgs st) (defBody st) (defScope st) .none kV doc pm an cdv ct), osl⟩)
    (c : PySem.W.codeIn K cdv qual = true) (k : PySem.W.keepIn K (.ref f) = true) : Fun K x qual st f (PySem.W.fnOf x qual (defArgs st) (defBody st) (defScope st) .none kV doc pm an cdv ct) := ⟨⟨oc, od, kV, doc, pm, an, cdv, ct, osl, rfl, l, c⟩, k⟩
end
theorem hu_of {A : Around} {k : Nat} (hr : Room k A) : A.units + 1 < cLine := Nat.lt_of_le_of_lt (Nat.add_le_add_left (by decide : 1 ≤ 64) _) hr.units
theorem small1000 {n : Nat} (h : n ≤ 1000) : n < sizeLine := Nat.lt_of_le_of_lt h (by decide)

/-! ### expressions in short: the name that stands in the i-th slot -/
section
variable {X : Cx}
theorem pv (i : Nat) {x : Str} {pos : Pos} (hN : X.N[i]? = some x := by rfl) (hv : Vis X.env.scope x := by first | exact Or.inl rfl | exact Or.inr (Or.inl rfl) | exact Or.inr (Or.inr rfl)) (hd : (x == ("__debug__" : Str)) = false := by decide)
    (hcd : (x == ("__classdict__" : Str)) = false := by decide) : PE X (.Name x pos) (tVar i) := pe_var hN hv hd hcd
end

/-! ### tests -/
theorem iteF {A B : Prop} (h : B) : if false = true then A else B := by
  rw [if_neg Bool.false_ne_true]
  exact h
theorem iteT {A B : Prop} (h : A) : if true = true then A else B := by
  rw [if_pos rfl]
  exact h
theorem ite2 {c A B : Prop} [Decidable c] (h1 : c → A) (h2 : ¬ c → B) : if c then A else B := by
  by_cases h : c
  · rw [if_pos h]
    exact h1 h
  · rw [if_neg h]
    exact h2 h
theorem iteNS {c A B : Prop} [Decidable c] (hc : c) (h : B) : if (!decide c) = true then A else B := by
  rw [decide_eq_true hc]
  exact iteF h

/-! ### heaps -/
/-- all that was tracked is as it was -/
def Same (H H' : Hp) : Prop := ∀ b o, H b = some o → H' b = some o
theorem Same.refl (H : Hp) : Same H H := fun _ _ h => h
theorem Same.trans {H H1 H2 : Hp} (a : Same H H1) (b : Same H1 H2) : Same H H2 := fun c o h => b c o (a c o h)
theorem Same.free {H H' : Hp} (e : Same H H') {l : Addr} (h : H' l = Option.none) : H l = Option.none := by
  cases q : H l with
  | none => rfl
  | some o =>
    rw [e l o q] at h
    cases h
theorem Same.seq {K : PySem.W.Frag} {H H' : Hp} {a : Addr} {xs : List V} (e : Same H H') (h : SqL K H a xs) : SqL K H' a xs := by
  rcases h with (h | ⟨o, h⟩) | h
  · exact .inl (.inl (e _ _ h))
  · exact .inl (.inr ⟨o, e _ _ h⟩)
  · exact .inr h

end L2
/-! A small language of values without a heap (IR), and what it means: evE, evS, run. -/
namespace DD
open PySem

abbrev PV := PyData

/-- a slot of a frame: unbound, a value, a list that this slot alone holds -/
inductive Sl where
  | un
  | val (p : PV)
  | own (ps : List PV)
abbrev Env := List Sl

inductive Op1 where
  | neg | len | isTup | isList | isInt | isBool | isStr | toList | toTuple | toInt | toStr | rev | all | any | isN | notN
  deriving DecidableEq
inductive Op2 where
  | add | sub | mul | fdiv | mod | pow | eq | ne | lt | le | gt | ge | inn | nin | ix | join
  deriving DecidableEq

inductive E where
  | var (i : Nat)
  | peek (i : Nat)
  | con (p : PV)
  | nil
  | cons (h t : E)
  | tup (a : E)
  | lst (a : E)
  | op1 (o : Op1) (a : E)
  | op2 (o : Op2) (a b : E)
  | sl (a lo hi : E)
  | call (f : Nat) (a : E)
  | and (a b : E)
  | or (a b : E)
  | not (a : E)
  | ite (c a b : E)
  | chain (o o' : Op2) (a b c : E)
  | comp (tg : Option Nat) (caps : List Nat) (it cond elt : E)
  | rng (a : E)
  | rng2 (a b : E)

inductive Tg where
  | one (i : Nat)
  | many (is : List Nat)

inductive S where
  | nx
  | seq (a b : S)
  | set (i : Nat) (e : E)
  | own (i : Nat) (e : E)
  | asg (t : Tg) (e : E)
  | ret (e : E)
  | ife (c : E) (a b : S)
  | loop (t : Tg) (it : E) (body : S)
  | app (i : Nat) (e : E)
  | frz (i : Nat)
  | brk
  | cnt

inductive Out where
  | nx (ρ : Env)
  | rt (p : PV)
  | bk (ρ : Env)
  | ct (ρ : Env)

/-! ### one after another: simp looks at the first part alone until it is known -/
/-- what comes behind is bound to its tag: simp leaves it alone -/
inductive Tag {A : Type} (f : A) : Type where
  | mk
def bnd {α β : Type} (x : Option α) (f : α → Option β) (_t : Tag f := Tag.mk) : Option β := match x with
  | none => none
  | some a => f a
@[simp] theorem bnd_none {α β : Type} (f : α → Option β) (t : Tag f) : bnd none f t = none := rfl
@[simp] theorem bnd_some {α β : Type} (a : α) (f : α → Option β) (t : Tag f) : bnd (some a) f t = f a := rfl
theorem bnd_eq {α β : Type} {x : Option α} {f : α → Option β} {b : β} : bnd x f = some b ↔ ∃ a, x = some a ∧ f a = some b := by
  cases x with
  | none => simp
  | some a => simp

/-! ### what the operations are worth -/

@[simp] def truthF : PV → Option Bool
  | .none => some false
  | .bool b => some b
  | .int i => some (i != 0)
  | .str x => some (x.length != 0)
  | .list xs => some (!xs.isEmpty)
  | .tuple xs => some (!xs.isEmpty)
  | .dict _ => none

@[simp] def addF : PV → PV → Option PV
  | .int i, .int j => some (.int (i + j))
  | .str x, .str y => if x.length + y.length ≤ 16777216 then some (.str (x ++ y)) else none
  | .tuple xs, .tuple ys => if xs.length + ys.length ≤ 16777216 then some (.tuple (xs ++ ys)) else none
  | .list xs, .list ys => if xs.length + ys.length ≤ 16777216 then some (.list (xs ++ ys)) else none
  | _, _ => none
@[simp] def subF : PV → PV → Option PV
  | .int i, .int j => some (.int (i - j))
  | _, _ => none
def small (i : Int) : Bool := decide (-(2 ^ 64) < i) && decide (i < 2 ^ 64)
@[simp] def mulF : PV → PV → Option PV
  | .int i, .int j => if small i || small j then some (.int (i * j)) else none
  | _, _ => none
@[simp] def fdivF : PV → PV → Option PV
  | .int i, .int j => if 0 < j ∧ j < 1073741824 then some (.int (i / j)) else none
  | _, _ => none
@[simp] def modF : PV → PV → Option PV
  | .int i, .int j => if 0 < j then some (.int (i % j)) else none
  | _, _ => none
@[simp] def powF : PV → PV → Option PV
  | .int 10, .int 30 => some (.int (10 ^ 30))
  | _, _ => none
@[simp] def isDict : PV → Bool
  | .dict _ => true
  | _ => false
@[simp] def eqF (p q : PV) : Option Bool := if isDict p || isDict q then none else if min p.depth q.depth ≤ 180 then some (PyData.eqv p q) else none
@[simp] def intsOf : List PV → Option (List Int)
  | [] => some []
  | .int i :: r => bnd (intsOf r) fun q => some (i :: q)
  | _ => none
def lexLt : List Int → List Int → Bool
  | [], [] => false
  | [], _ :: _ => true
  | _ :: _, [] => false
  | x :: xs, y :: ys => if x = y then lexLt xs ys else decide (x < y)
@[simp] def ltF : PV → PV → Option PV
  | .int i, .int j => some (.bool (decide (i < j)))
  | .tuple xs, .tuple ys => bnd (intsOf xs) fun ns => bnd (intsOf ys) fun ms => some (.bool (lexLt ns ms))
  | _, _ => none
@[simp] def cmpI (f : Int → Int → Bool) : PV → PV → Option PV
  | .int i, .int j => some (.bool (f i j))
  | _, _ => none
@[simp] def inF (x : PV) : PV → Option Bool
  | .list ys => if isDict x then none else if min (PyData.depthAll ys) x.depth ≤ 180 then some (ys.any fun y => PyData.eqv y x) else none
  | .tuple ys => if isDict x then none else if min (PyData.depthAll ys) x.depth ≤ 180 then some (ys.any fun y => PyData.eqv y x) else none
  | _ => none
def ixN (n : Nat) (i : Int) : Option Nat := if 0 ≤ i then (if i < n then some i.toNat else none) else if -(n : Int) ≤ i then some (i + n).toNat else none
def atI {α : Type} (xs : List α) (i : Int) : Option α := (ixN xs.length i).bind fun j => xs[j]?
@[simp] def ixF : PV → PV → Option PV
  | .tuple xs, .int i => atI xs i
  | .list xs, .int i => atI xs i
  | .str x, .int i => bnd (atI x.cps.toList i) fun c => some (.str ⟨#[c]⟩)
  | _, _ => none
@[simp] def strsOf : List PV → Option (List Str)
  | [] => some []
  | .str x :: r => bnd (strsOf r) fun q => some (x :: q)
  | _ => none
def joinS (sep : Str) : List Str → Str
  | [] => ⟨#[]⟩
  | [x] => x
  | x :: y :: r => x ++ sep ++ joinS sep (y :: r)
@[simp] def joinF : PV → PV → Option PV
  | .str sep, .list ys => bnd (strsOf ys) fun xs => if (xs.map Str.length).sum + xs.length * sep.length ≤ 16777216 then some (.str (joinS sep xs)) else none
  | _, _ => none
@[simp] def seqOf : PV → Option (List PV)
  | .list xs => some xs
  | .tuple xs => some xs
  | _ => none
@[simp] def truths : List PV → Option (List Bool)
  | [] => some []
  | .bool b :: r => bnd (truths r) fun q => some (b :: q)
  | _ => none
@[simp] def opF1 : Op1 → PV → Option PV
  | .neg, .int i => some (.int (-i))
  | .len, .tuple xs => some (.int xs.length)
  | .len, .list xs => some (.int xs.length)
  | .len, .str x => some (.int x.length)
  | .isTup, .tuple _ => some (.bool true)
  | .isTup, .dict _ => none
  | .isTup, _ => some (.bool false)
  | .isList, .list _ => some (.bool true)
  | .isList, .dict _ => none
  | .isList, _ => some (.bool false)
  | .isInt, .int _ => some (.bool true)
  | .isInt, .bool _ => some (.bool true)
  | .isInt, .dict _ => none
  | .isInt, _ => some (.bool false)
  | .isBool, .bool _ => some (.bool true)
  | .isBool, .dict _ => none
  | .isBool, _ => some (.bool false)
  | .isStr, .str _ => some (.bool true)
  | .isStr, .dict _ => none
  | .isStr, _ => some (.bool false)
  | .toList, .tuple xs => some (.list xs)
  | .toList, .list xs => some (.list xs)
  | .toTuple, .tuple xs => some (.tuple xs)
  | .toTuple, .list xs => some (.tuple xs)
  | .toInt, .bool b => some (.int (if b then 1 else 0))
  | .toInt, .int i => some (.int i)
  | .toStr, .int i => if i.natAbs < 2 ^ 64 then some (.str (toString i : String)) else none
  | .rev, .tuple xs => some (.tuple xs.reverse)
  | .rev, .list xs => some (.list xs.reverse)
  | .all, .list xs => bnd (truths xs) fun bs => some (.bool (bs.all id))
  | .any, .list xs => bnd (truths xs) fun bs => some (.bool (bs.any id))
  | .isN, p => some (.bool (match p with | .none => true | _ => false))
  | .notN, p => some (.bool (match p with | .none => false | _ => true))
  | _, _ => none
@[simp] def opF2 : Op2 → PV → PV → Option PV
  | .add => addF
  | .sub => subF
  | .mul => mulF
  | .fdiv => fdivF
  | .mod => modF
  | .pow => powF
  | .eq => fun p q => bnd (eqF p q) fun b => some (.bool b)
  | .ne => fun p q => bnd (eqF p q) fun b => some (.bool (!b))
  | .lt => ltF
  | .le => cmpI fun i j => decide (i ≤ j)
  | .gt => cmpI fun i j => decide (j < i)
  | .ge => cmpI fun i j => decide (j ≤ i)
  | .inn => fun p q => bnd (inF p q) fun b => some (.bool b)
  | .nin => fun p q => bnd (inF p q) fun b => some (.bool (!b))
  | .ix => ixF
  | .join => joinF
/-- a slice's bound as a place among n (d where it is left out) -/
def sIx (n d : Nat) : Option Int → Nat
  | none => d
  | some v => if v < 0 then (v + (n : Int)).toNat else min v.toNat n
def cut {α : Type} (xs : List α) (lo hi : Option Int) : List α := (xs.drop (sIx xs.length 0 lo)).take (sIx xs.length xs.length hi - sIx xs.length 0 lo)
@[simp] def partF : PV → Option (Option Int)
  | .none => some none
  | .int i => some (some i)
  | _ => none
@[simp] def cutF (l h : Option Int) : PV → Option PV
  | .tuple xs => some (.tuple (cut xs l h))
  | .list xs => some (.list (cut xs l h))
  | _ => none
@[simp] def slF (x lo hi : PV) : Option PV := bnd (partF lo) fun l => bnd (partF hi) fun h => cutF l h x
@[simp] def rngF (lo hi : Int) : Option PV := if -1000000 ≤ lo ∧ lo ≤ 1000000 ∧ -1000000 ≤ hi ∧ hi ≤ 1000000 then some (.list ((List.range (hi - lo).toNat).map fun k => .int (lo + (k : Nat)))) else none

/-! ### expressions -/
@[simp] def Sl.get : Sl → Option PV
  | .val p => some p
  | _ => none
@[simp] def Sl.look : Sl → Option PV
  | .val p => some p
  | .own ps => some (.list ps)
  | .un => none
@[simp] def bindT : Option Nat → PV → Option (List Sl)
  | none, p => some [.val p]
  | some n, .tuple xs => if xs.length = n then some (xs.map .val) else none
  | _, _ => none
@[simp] def addO : Option PV → List PV → List PV
  | some y, r => y :: r
  | none, r => r
def compF (g : PV → Option (Option PV)) : List PV → Option (List PV)
  | [] => some []
  | x :: xs => bnd (g x) fun o => bnd (compF g xs) fun r => some (addO o r)
@[simp] def consF (x : PV) : PV → Option PV
  | .tuple xs => some (.tuple (x :: xs))
  | _ => none
@[simp] def lstF : PV → Option PV
  | .tuple xs => some (.list xs)
  | _ => none
@[simp] def callF (cf : Nat → List PV → Option PV) (f : Nat) : PV → Option PV
  | .tuple xs => cf f xs
  | _ => none
@[simp] def chainF (k : Unit → Option PV) : PV → Option PV
  | .bool true => k ()
  | .bool false => some (.bool false)
  | _ => none
@[simp] def rngI : PV → PV → Option PV
  | .int m, .int n => rngF m n
  | _, _ => none

@[simp] def evE (cf : Nat → List PV → Option PV) : E → Env → Option PV
  | .var i, ρ => bnd ρ[i]? Sl.get
  | .peek i, ρ => bnd ρ[i]? Sl.look
  | .con p, _ => some p
  | .nil, _ => some (.tuple [])
  | .cons h t, ρ => bnd (evE cf h ρ) fun x => bnd (evE cf t ρ) (consF x)
  | .tup a, ρ => evE cf a ρ
  | .lst a, ρ => bnd (evE cf a ρ) lstF
  | .op1 o a, ρ => bnd (evE cf a ρ) (opF1 o)
  | .op2 o a b, ρ => bnd (evE cf a ρ) fun x => bnd (evE cf b ρ) fun y => opF2 o x y
  | .sl a lo hi, ρ => bnd (evE cf a ρ) fun x => bnd (evE cf lo ρ) fun l => bnd (evE cf hi ρ) fun h => slF x l h
  | .call f a, ρ => bnd (evE cf a ρ) (callF cf f)
  | .and a b, ρ => bnd (evE cf a ρ) fun x => bnd (truthF x) fun t => if t then evE cf b ρ else some x
  | .or a b, ρ => bnd (evE cf a ρ) fun x => bnd (truthF x) fun t => if t then some x else evE cf b ρ
  | .not a, ρ => bnd (evE cf a ρ) fun x => bnd (truthF x) fun t => some (.bool (!t))
  | .ite c a b, ρ => bnd (evE cf c ρ) fun x => bnd (truthF x) fun t => if t then evE cf a ρ else evE cf b ρ
  | .chain o o' a b c, ρ => bnd (evE cf a ρ) fun x => bnd (evE cf b ρ) fun y => bnd (opF2 o x y) (chainF fun _ => bnd (evE cf c ρ) fun z => opF2 o' y z)
  | .comp tg caps it cond elt, ρ => bnd (evE cf it ρ) fun s => bnd (seqOf s) fun xs =>
    bnd (compF (fun x => bnd (bindT tg x) fun bs => bnd (evE cf cond (bs ++ caps.map (ρ.getD · .un))) fun c => bnd (truthF c) fun t =>
      if t then bnd (evE cf elt (bs ++ caps.map (ρ.getD · .un))) fun y => some (some y) else some none) xs) fun r => some (.list r)
  | .rng a, ρ => bnd (evE cf a ρ) fun x => rngI (.int 0) x
  | .rng2 a b, ρ => bnd (evE cf a ρ) fun x => bnd (evE cf b ρ) fun y => rngI x y

/-! ### statements -/
@[simp] def setMany : List Nat → List PV → Env → Option Env
  | [], [], ρ => some ρ
  | i :: is, x :: xs, ρ => setMany is xs (ρ.set i (.val x))
  | _, _, _ => none
@[simp] def bindS : Tg → PV → Env → Option Env
  | .one i, p, ρ => some (ρ.set i (.val p))
  | .many is, .tuple xs, ρ => setMany is xs ρ
  | .many _, _, _ => none
/-- what comes behind a statement -/
def seqO (x : Option Out) (f : Env → Option Out) (_t : Tag f := Tag.mk) : Option Out := match x with
  | none => none
  | some (.nx ρ) => f ρ
  | some o => some o
@[simp] theorem seqO_none (f : Env → Option Out) (t : Tag f) : seqO none f t = none := rfl
@[simp] theorem seqO_nx (ρ : Env) (f : Env → Option Out) (t : Tag f) : seqO (some (.nx ρ)) f t = f ρ := rfl
@[simp] theorem seqO_rt (p : PV) (f : Env → Option Out) (t : Tag f) : seqO (some (.rt p)) f t = some (.rt p) := rfl
@[simp] theorem seqO_bk (ρ : Env) (f : Env → Option Out) (t : Tag f) : seqO (some (.bk ρ)) f t = some (.bk ρ) := rfl
@[simp] theorem seqO_ct (ρ : Env) (f : Env → Option Out) (t : Tag f) : seqO (some (.ct ρ)) f t = some (.ct ρ) := rfl
/-- what comes behind a turn -/
def turnO (x : Option Out) (f : Env → Option Out) (_t : Tag f := Tag.mk) : Option Out := match x with
  | none => none
  | some (.nx ρ) => f ρ
  | some (.ct ρ) => f ρ
  | some (.bk ρ) => some (.nx ρ)
  | some (.rt p) => some (.rt p)
@[simp] theorem turnO_none (f : Env → Option Out) (t : Tag f) : turnO none f t = none := rfl
@[simp] theorem turnO_nx (ρ : Env) (f : Env → Option Out) (t : Tag f) : turnO (some (.nx ρ)) f t = f ρ := rfl
@[simp] theorem turnO_rt (p : PV) (f : Env → Option Out) (t : Tag f) : turnO (some (.rt p)) f t = some (.rt p) := rfl
@[simp] theorem turnO_bk (ρ : Env) (f : Env → Option Out) (t : Tag f) : turnO (some (.bk ρ)) f t = some (.nx ρ) := rfl
@[simp] theorem turnO_ct (ρ : Env) (f : Env → Option Out) (t : Tag f) : turnO (some (.ct ρ)) f t = f ρ := rfl
def loopF (tg : Tg) (g : Env → Option Out) : List PV → Env → Option Out
  | [], ρ => some (.nx ρ)
  | x :: xs, ρ => bnd (bindS tg x ρ) fun ρ1 => turnO (g ρ1) fun ρ2 => loopF tg g xs ρ2
@[simp] def ownF (i : Nat) (ρ : Env) : PV → Option Out
  | .list ps => some (.nx (ρ.set i (.own ps)))
  | _ => none
@[simp] def appF (i : Nat) (ρ : Env) (p : PV) : Sl → Option Out
  | .own ps => if ps.length < 1000000 then some (.nx (ρ.set i (.own (ps ++ [p])))) else none
  | _ => none
@[simp] def frzF (i : Nat) (ρ : Env) : Sl → Option Out
  | .own ps => some (.nx (ρ.set i (.val (.list ps))))
  | _ => some (.nx ρ)
@[simp] def evS (cf : Nat → List PV → Option PV) : S → Env → Option Out
  | .nx, ρ => some (.nx ρ)
  | .seq a b, ρ => seqO (evS cf a ρ) fun ρ1 => evS cf b ρ1
  | .set i e, ρ => bnd (evE cf e ρ) fun p => some (.nx (ρ.set i (.val p)))
  | .own i e, ρ => bnd (evE cf e ρ) (ownF i ρ)
  | .asg t e, ρ => bnd (evE cf e ρ) fun p => bnd (bindS t p ρ) fun ρ1 => some (.nx ρ1)
  | .ret e, ρ => bnd (evE cf e ρ) fun p => some (.rt p)
  | .ife c a b, ρ => bnd (evE cf c ρ) fun x => bnd (truthF x) fun t => if t then evS cf a ρ else evS cf b ρ
  | .loop t it body, ρ => bnd (evE cf it ρ) fun s => bnd (seqOf s) fun xs => loopF t (evS cf body) xs ρ
  | .app i e, ρ => bnd (evE cf e ρ) fun p => bnd ρ[i]? (appF i ρ p)
  | .frz i, ρ => bnd ρ[i]? (frzF i ρ)
  | .brk, ρ => some (.bk ρ)
  | .cnt, ρ => some (.ct ρ)

/-! ### defs -/
structure Fn where
  np : Nat
  ns : Nat
  body : S
@[simp] def outV : Option Out → Option PV
  | some (.rt p) => some p
  | some (.nx _) => some .none
  | _ => none
@[simp] def start (F : Fn) (args : List PV) : Env := args.map .val ++ List.replicate (F.ns - F.np) .un
/-- the defs by their numbers -/
abbrev Tab := Nat → Option Fn
def run (T : Tab) : Nat → Nat → List PV → Option PV
  | 0, _, _ => none
  | k + 1, f, args => match T f with
    | none => none
    | some F => if args.length = F.np then outV (evS (run T k) F.body (start F args)) else none
end DD
set_option maxRecDepth 100000
namespace DD
open PySem

theorem run_succ {T : Tab} {k f : Nat} {args : List PV} {F : Fn} (h : T f = some F) (hl : args.length = F.np) :
    run T (k + 1) f args = outV (evS (run T k) F.body (start F args)) := by
  simp only [run, h, hl, if_true]

/-! more calls allowed: the same answer -/
def Le (cf cf' : Nat → List PV → Option PV) : Prop := ∀ f xs p, cf f xs = some p → cf' f xs = some p

theorem bind_le {α β : Type} {x x' : Option α} {g g' : α → Option β} {q : β} (hx : ∀ a, x = some a → x' = some a) (hg : ∀ a, g a = some q → g' a = some q)
    (h : bnd x g = some q) : bnd x' g' = some q := by
  cases hxa : x with
  | none => rw [hxa] at h; cases h
  | some a => rw [hxa] at h; rw [hx a hxa]; exact hg a h
theorem compF_le {g g' : PV → Option (Option PV)} (hg : ∀ x o, g x = some o → g' x = some o) : ∀ (xs r : List PV), compF g xs = some r → compF g' xs = some r
  | [], r, h => h
  | x :: xs, r, h => by
    unfold compF at h ⊢
    refine bind_le (hg x) (fun o h => ?_) h
    exact bind_le (compF_le hg xs) (fun _ h => h) h

theorem evE_le {cf cf' : Nat → List PV → Option PV} (hc : Le cf cf') : ∀ (e : E) (ρ : Env) (p : PV), evE cf e ρ = some p → evE cf' e ρ = some p := by
  intro e
  induction e with
  | var i => intro ρ p h; exact h
  | peek i => intro ρ p h; exact h
  | con q => intro ρ p h; exact h
  | nil => intro ρ p h; exact h
  | cons a t iha iht => intro ρ p h; exact bind_le (iha ρ) (fun x h => bind_le (iht ρ) (fun r h => h) h) h
  | tup a iha => intro ρ p h; exact iha ρ p h
  | lst a iha => intro ρ p h; exact bind_le (iha ρ) (fun r h => h) h
  | op1 o a iha => intro ρ p h; exact bind_le (iha ρ) (fun r h => h) h
  | op2 o a b iha ihb => intro ρ p h; exact bind_le (iha ρ) (fun x h => bind_le (ihb ρ) (fun r h => h) h) h
  | sl a lo hi iha ihl ihh => intro ρ p h; exact bind_le (iha ρ) (fun x h => bind_le (ihl ρ) (fun r h => bind_le (ihh ρ) (fun r h => h) h) h) h
  | call f a iha =>
    intro ρ p h
    refine bind_le (iha ρ) (fun r h => ?_) h
    cases r with
    | tuple xs => exact hc f xs p h
    | _ => exact h
  | and a b iha ihb =>
    intro ρ p h
    refine bind_le (iha ρ) (fun x h => bind_le (fun _ h => h) (fun t h => ?_) h) h
    cases t with
    | true => exact ihb ρ p h
    | false => exact h
  | or a b iha ihb =>
    intro ρ p h
    refine bind_le (iha ρ) (fun x h => bind_le (fun _ h => h) (fun t h => ?_) h) h
    cases t with
    | true => exact h
    | false => exact ihb ρ p h
  | not a iha => intro ρ p h; exact bind_le (iha ρ) (fun x h => h) h
  | ite c a b ihc iha ihb =>
    intro ρ p h
    refine bind_le (ihc ρ) (fun x h => bind_le (fun _ h => h) (fun t h => ?_) h) h
    cases t with
    | true => exact iha ρ p h
    | false => exact ihb ρ p h
  | chain o o' a b c iha ihb ihc =>
    intro ρ p h
    refine bind_le (iha ρ) (fun x h => bind_le (ihb ρ) (fun y h => bind_le (fun _ h => h) (fun r h => ?_) h) h) h
    cases r with
    | bool t =>
      cases t with
      | true => exact bind_le (ihc ρ) (fun z h => h) h
      | false => exact h
    | _ => exact h
  | comp tg caps it cond elt ihi ihc ihe =>
    intro ρ p h
    refine bind_le (ihi ρ) (fun s h => bind_le (fun _ h => h) (fun xs h => ?_) h) h
    refine bind_le (compF_le (fun x o h => ?_) xs) (fun _ h => h) h
    refine bind_le (fun _ h => h) (fun bs h => ?_) h
    refine bind_le (ihc _) (fun c h => bind_le (fun _ h => h) (fun t h => ?_) h) h
    cases t with
    | true => exact bind_le (ihe _) (fun _ h => h) h
    | false => exact h
  | rng a iha => intro ρ p h; exact bind_le (iha ρ) (fun x h => h) h
  | rng2 a b iha ihb => intro ρ p h; exact bind_le (iha ρ) (fun x h => bind_le (ihb ρ) (fun r h => h) h) h

theorem seqO_le {x x' : Option Out} {g g' : Env → Option Out} {q : Out} (hx : ∀ a, x = some a → x' = some a) (hg : ∀ a o, g a = some o → g' a = some o)
    (h : seqO x g = some q) : seqO x' g' = some q := by
  cases hxa : x with
  | none => rw [hxa] at h; cases h
  | some a =>
    rw [hxa] at h; rw [hx a hxa]
    cases a with
    | nx ρ => exact hg ρ q h
    | _ => exact h
theorem turnO_le {x x' : Option Out} {g g' : Env → Option Out} {q : Out} (hx : ∀ a, x = some a → x' = some a) (hg : ∀ a o, g a = some o → g' a = some o)
    (h : turnO x g = some q) : turnO x' g' = some q := by
  cases hxa : x with
  | none => rw [hxa] at h; cases h
  | some a =>
    rw [hxa] at h; rw [hx a hxa]
    cases a with
    | nx ρ => exact hg ρ q h
    | ct ρ => exact hg ρ q h
    | _ => exact h
theorem loopF_le {tg : Tg} {g g' : Env → Option Out} (hg : ∀ ρ o, g ρ = some o → g' ρ = some o) : ∀ (xs : List PV) (ρ : Env) (o : Out), loopF tg g xs ρ = some o → loopF tg g' xs ρ = some o
  | [], ρ, o, h => h
  | x :: xs, ρ, o, h => by
    unfold loopF at h ⊢
    exact bind_le (fun _ h => h) (fun ρ1 h => turnO_le (hg ρ1) (fun ρ2 o h => loopF_le hg xs ρ2 o h) h) h
theorem evS_le {cf cf' : Nat → List PV → Option PV} (hc : Le cf cf') : ∀ (s : S) (ρ : Env) (o : Out), evS cf s ρ = some o → evS cf' s ρ = some o := by
  intro s
  induction s with
  | nx => intro ρ o h; exact h
  | seq a b iha ihb => intro ρ o h; exact seqO_le (iha ρ) ihb h
  | set i e => intro ρ o h; exact bind_le (evE_le hc e ρ) (fun _ h => h) h
  | own i e => intro ρ o h; exact bind_le (evE_le hc e ρ) (fun _ h => h) h
  | asg t e => intro ρ o h; exact bind_le (evE_le hc e ρ) (fun _ h => h) h
  | ret e => intro ρ o h; exact bind_le (evE_le hc e ρ) (fun _ h => h) h
  | ife c a b iha ihb =>
    intro ρ o h
    refine bind_le (evE_le hc c ρ) (fun x h => bind_le (fun _ h => h) (fun t h => ?_) h) h
    cases t with
    | true => exact iha ρ o h
    | false => exact ihb ρ o h
  | loop t it body ih =>
    intro ρ o h
    exact bind_le (evE_le hc it ρ) (fun x h => bind_le (fun _ h => h) (fun xs h => loopF_le ih xs ρ o h) h) h
  | app i e => intro ρ o h; exact bind_le (evE_le hc e ρ) (fun _ h => h) h
  | frz i => intro ρ o h; exact h
  | brk => intro ρ o h; exact h
  | cnt => intro ρ o h; exact h
theorem outV_le {x x' : Option Out} {p : PV} (h : ∀ o, x = some o → x' = some o) (hx : outV x = some p) : outV x' = some p := by
  cases e : x with
  | none => rw [e] at hx; cases hx
  | some o => rw [e] at hx; rw [h o e]; exact hx
theorem run_le1 {T : Tab} : ∀ k, Le (run T k) (run T (k + 1))
  | 0 => fun f xs p h => by cases h
  | k + 1 => fun f xs p h => by
    unfold run at h ⊢
    cases e : T f with
    | none => rw [e] at h; cases h
    | some F =>
      rw [e] at h
      dsimp only at h ⊢
      by_cases hl : xs.length = F.np
      · rw [if_pos hl] at h ⊢
        exact outV_le (fun o => evS_le (run_le1 k) F.body _ o) h
      · rw [if_neg hl] at h; cases h
theorem run_le {T : Tab} {k j f : Nat} {xs : List PV} {p : PV} (hk : k ≤ j) (h : run T k f xs = some p) : run T j f xs = some p := by
  induction hk with
  | refl => exact h
  | step _ ih => exact run_le1 _ f xs p ih
end DD
set_option maxRecDepth 100000
namespace DD
open PySem
def b0 : S := (.ret (.and (.op1 .isTup (.var 0)) (.op2 .eq (.op1 .len (.var 0)) (.var 1))))
abbrev f0 : Fn := ⟨2, 2, b0⟩
def b1 : S := (.ret (.and (.op1 .isInt (.var 0)) (.not (.op1 .isBool (.var 0)))))
abbrev f1 : Fn := ⟨1, 1, b1⟩
def b2 : S := (.ret (.and (.call 0 (.cons (.var 0) (.cons (.con (.int 2)) .nil))) (.and (.op2 .inn (.op2 .ix (.var 0) (.con (.int 0))) (.con (.tuple [(.str "a"), (.str "b")]))) (.op2 .inn (.op2 .ix (.var 0) (.con (.int 1))) (.con (.tuple [(.str "x"), (.str "y")]))))))
abbrev f2 : Fn := ⟨1, 1, b2⟩
def b3 : S := (.ret (.and (.call 0 (.cons (.var 0) (.cons (.con (.int 3)) .nil))) (.and (.op2 .eq (.op2 .ix (.var 0) (.con (.int 0))) (.con (.str "to"))) (.and (.op2 .inn (.op2 .ix (.var 0) (.con (.int 1))) (.con (.tuple [(.str "x"), (.str "y")]))) (.op2 .inn (.op2 .ix (.var 0) (.con (.int 2))) (.con (.tuple [(.str "x"), (.str "y")])))))))
abbrev f3 : Fn := ⟨1, 1, b3⟩
def b4 : S := (.ret (.or (.op2 .inn (.var 0) (.con (.tuple [(.str "yes"), (.str "no")]))) (.or (.call 2 (.cons (.var 0) .nil)) (.call 3 (.cons (.var 0) .nil)))))
abbrev f4 : Fn := ⟨1, 1, b4⟩
def b5 : S := (.seq (.ife (.call 4 (.cons (.var 0) .nil)) (.ret (.con (.bool true))) .nx) (.seq (.ife (.op2 .eq (.var 1) (.con (.int 0))) (.ret (.con (.bool false))) .nx) (.seq (.ife (.and (.call 0 (.cons (.var 0) (.cons (.con (.int 2)) .nil))) (.op2 .eq (.op2 .ix (.var 0) (.con (.int 0))) (.con (.str "not")))) (.ret (.call 5 (.cons (.op2 .ix (.var 0) (.con (.int 1))) (.cons (.op2 .sub (.var 1) (.con (.int 1))) .nil)))) .nx) (.seq (.ife (.and (.call 0 (.cons (.var 0) (.cons (.con (.int 3)) .nil))) (.op2 .inn (.op2 .ix (.var 0) (.con (.int 0))) (.con (.tuple [(.str "both"), (.str "either")])))) (.ret (.and (.call 5 (.cons (.op2 .ix (.var 0) (.con (.int 1))) (.cons (.op2 .sub (.var 1) (.con (.int 1))) .nil))) (.call 5 (.cons (.op2 .ix (.var 0) (.con (.int 2))) (.cons (.op2 .sub (.var 1) (.con (.int 1))) .nil))))) .nx) (.ret (.con (.bool false)))))))
abbrev f5 : Fn := ⟨2, 2, b5⟩
def b6 : S := (.ret (.call 5 (.cons (.var 0) (.cons (.con (.int 5)) .nil))))
abbrev f6 : Fn := ⟨1, 1, b6⟩
def b7 : S := (.seq (.ife (.not (.call 0 (.cons (.var 0) (.cons (.con (.int 3)) .nil)))) (.ret (.con (.bool false))) .nx) (.ret (.and (.op2 .inn (.op2 .ix (.var 0) (.con (.int 0))) (.con (.tuple [(.str "each"), (.str "some")]))) (.and (.op2 .inn (.op2 .ix (.var 0) (.con (.int 1))) (.con (.tuple [(.str "each"), (.str "some")]))) (.call 6 (.cons (.op2 .ix (.var 0) (.con (.int 2))) .nil))))))
abbrev f7 : Fn := ⟨1, 1, b7⟩
def b8 : S := (.ret (.op1 .len (.comp none [] (.var 0) (.op2 .eq (.sl (.var 0) (.con .none) (.con (.int 2))) (.con (.tuple [(.str "some"), (.str "each")]))) (.var 0))))
abbrev f8 : Fn := ⟨1, 1, b8⟩
def b9 : S := (.seq (.ife (.or (.not (.op1 .isTup (.var 0))) (.op2 .gt (.op1 .len (.var 0)) (.con (.int 4)))) (.ret (.con (.bool false))) .nx) (.seq (.ife (.not (.op1 .all (.comp none [] (.var 0) (.con (.bool true)) (.call 7 (.cons (.var 0) .nil))))) (.ret (.con (.bool false))) .nx) (.ret (.op2 .le (.call 8 (.cons (.var 0) .nil)) (.con (.int 2))))))
abbrev f9 : Fn := ⟨1, 1, b9⟩
def b10 : S := (.ret (.and (.call 1 (.cons (.var 0) .nil)) (.chain .le .lt (.con (.int 0)) (.var 0) (.var 1))))
abbrev f10 : Fn := ⟨2, 2, b10⟩
def b11 : S := (.ret (.and (.call 0 (.cons (.var 0) (.cons (.con (.int 2)) .nil))) (.and (.call 10 (.cons (.op2 .ix (.var 0) (.con (.int 0))) (.cons (.var 1) .nil))) (.call 10 (.cons (.op2 .ix (.var 0) (.con (.int 1))) (.cons (.var 1) .nil))))))
abbrev f11 : Fn := ⟨2, 2, b11⟩
def b12 : S := (.ret (.op1 .all (.comp none [0] (.rng (.op2 .sub (.op1 .len (.var 0)) (.con (.int 1)))) (.con (.bool true)) (.op2 .lt (.op2 .ix (.var 1) (.var 0)) (.op2 .ix (.var 1) (.op2 .add (.var 0) (.con (.int 1))))))))
abbrev f12 : Fn := ⟨1, 1, b12⟩
def b13 : S := (.seq (.ife (.not (.op1 .isTup (.var 0))) (.ret (.con (.bool false))) .nx) (.ret (.and (.op1 .all (.comp none [1] (.var 0) (.con (.bool true)) (.call 10 (.cons (.var 0) (.cons (.var 1) .nil))))) (.call 12 (.cons (.var 0) .nil)))))
abbrev f13 : Fn := ⟨2, 2, b13⟩
def b14 : S := (.seq (.ife (.not (.op1 .isTup (.var 0))) (.ret (.con (.bool false))) .nx) (.ret (.and (.op1 .all (.comp none [1] (.var 0) (.con (.bool true)) (.call 11 (.cons (.var 0) (.cons (.var 1) .nil))))) (.call 12 (.cons (.var 0) .nil)))))
abbrev f14 : Fn := ⟨2, 2, b14⟩
def b15 : S := (.seq (.ife (.not (.call 0 (.cons (.var 0) (.cons (.con (.int 4)) .nil)))) (.ret (.con (.bool false))) .nx) (.seq (.set 1 (.op2 .ix (.var 0) (.con (.int 0)))) (.seq (.ife (.or (.not (.call 1 (.cons (.var 1) .nil))) (.not (.chain .le .le (.con (.int 1)) (.var 1) (.con (.int 4))))) (.ret (.con (.bool false))) .nx) (.ret (.and (.call 13 (.cons (.op2 .ix (.var 0) (.con (.int 1))) (.cons (.var 1) .nil))) (.and (.call 13 (.cons (.op2 .ix (.var 0) (.con (.int 2))) (.cons (.var 1) .nil))) (.call 14 (.cons (.op2 .ix (.var 0) (.con (.int 3))) (.cons (.var 1) .nil)))))))))
abbrev f15 : Fn := ⟨1, 2, b15⟩
def b16 : S := (.seq (.ife (.op2 .lt (.var 1) (.op1 .len (.var 0))) (.ret (.op2 .ix (.var 0) (.var 1))) .nx) (.ret (.con (.int 0))))
abbrev f16 : Fn := ⟨2, 2, b16⟩
def b17 : S := (.seq (.set 2 (.op2 .mod (.op2 .mul (.op2 .add (.op2 .add (.call 16 (.cons (.var 0) (.cons (.var 1) .nil))) (.op2 .mul (.con (.int 7919)) (.var 1))) (.con (.int 1))) (.con (.int 48271))) (.con (.int 2147483647)))) (.ret (.op2 .mod (.op2 .add (.op2 .add (.op2 .mul (.var 2) (.var 2)) (.op2 .mul (.con (.int 7)) (.var 2))) (.var 1)) (.con (.int 2147483629)))))
abbrev f17 : Fn := ⟨2, 3, b17⟩
def b18 : S := (.seq (.set 2 (.op2 .mod (.op2 .mul (.op2 .add (.op2 .add (.var 0) (.op2 .mul (.con (.int 104729)) (.var 1))) (.con (.int 17))) (.con (.int 69621))) (.con (.int 2147483647)))) (.ret (.op2 .mod (.op2 .add (.op2 .add (.op2 .mul (.var 2) (.var 2)) (.op2 .mul (.con (.int 3)) (.var 2))) (.var 1)) (.con (.int 2147483629)))))
abbrev f18 : Fn := ⟨2, 3, b18⟩
def b19 : S := (.seq (.set 2 (.op2 .mod (.var 0) (.con (.int 10)))) (.seq (.ife (.or (.op2 .eq (.var 1) (.con (.int 0))) (.op2 .lt (.var 2) (.con (.int 3)))) (.seq (.set 3 (.lst (.cons (.tup (.cons (.con (.str "a")) (.cons (.con (.str "x")) .nil))) (.cons (.tup (.cons (.con (.str "a")) (.cons (.con (.str "y")) .nil))) (.cons (.tup (.cons (.con (.str "b")) (.cons (.con (.str "x")) .nil))) (.cons (.tup (.cons (.con (.str "b")) (.cons (.con (.str "y")) .nil))) (.cons (.tup (.cons (.con (.str "to")) (.cons (.con (.str "x")) (.cons (.con (.str "y")) .nil)))) (.cons (.tup (.cons (.con (.str "to")) (.cons (.con (.str "y")) (.cons (.con (.str "x")) .nil)))) (.cons (.tup (.cons (.con (.str "to")) (.cons (.con (.str "x")) (.cons (.con (.str "y")) .nil)))) .nil))))))))) (.ret (.op2 .ix (.op2 .add (.var 3) (.lst (.cons (.tup (.cons (.con (.str "to")) (.cons (.con (.str "x")) (.cons (.con (.str "x")) .nil)))) (.cons (.tup (.cons (.con (.str "to")) (.cons (.con (.str "y")) (.cons (.con (.str "y")) .nil)))) (.cons (.tup (.cons (.con (.str "to")) (.cons (.con (.str "y")) (.cons (.con (.str "x")) .nil)))) (.cons (.con (.str "yes")) (.cons (.con (.str "no")) .nil))))))) (.op2 .mod (.op2 .fdiv (.var 0) (.con (.int 10))) (.con (.int 12)))))) .nx) (.seq (.set 4 (.call 19 (.cons (.call 18 (.cons (.var 0) (.cons (.con (.int 1)) .nil))) (.cons (.op2 .sub (.var 1) (.con (.int 1))) .nil)))) (.seq (.ife (.op2 .eq (.var 2) (.con (.int 3))) (.ret (.tup (.cons (.con (.str "not")) (.cons (.var 4) .nil)))) .nx) (.seq (.set 5 (.call 19 (.cons (.call 18 (.cons (.var 0) (.cons (.con (.int 2)) .nil))) (.cons (.op2 .sub (.var 1) (.con (.int 1))) .nil)))) (.seq (.ife (.and (.op2 .lt (.var 2) (.con (.int 6))) (.op2 .gt (.var 1) (.con (.int 1)))) (.ret (.tup (.cons (.con (.str "either")) (.cons (.tup (.cons (.con (.str "not")) (.cons (.call 19 (.cons (.call 18 (.cons (.var 0) (.cons (.con (.int 1)) .nil))) (.cons (.op2 .sub (.var 1) (.con (.int 2))) .nil))) .nil))) (.cons (.var 5) .nil))))) .nx) (.ret (.tup (.cons (.op2 .ix (.tup (.cons (.con (.str "both")) (.cons (.con (.str "either")) .nil))) (.op2 .mod (.var 2) (.con (.int 2)))) (.cons (.var 4) (.cons (.var 5) .nil)))))))))))
abbrev f19 : Fn := ⟨2, 6, b19⟩
def b20 : S := (.seq (.set 2 (.op2 .ix (.tup (.cons (.con (.str "each")) (.cons (.con (.str "each")) (.cons (.con (.str "each")) (.cons (.con (.str "some")) .nil))))) (.op2 .mod (.var 0) (.con (.int 4))))) (.seq (.set 3 (.op2 .ix (.tup (.cons (.con (.str "some")) (.cons (.con (.str "each")) (.cons (.con (.str "some")) .nil)))) (.op2 .mod (.op2 .fdiv (.var 0) (.con (.int 4))) (.con (.int 3))))) (.ret (.tup (.cons (.var 2) (.cons (.var 3) (.cons (.call 19 (.cons (.op2 .fdiv (.var 0) (.con (.int 12))) (.cons (.var 1) .nil))) .nil)))))))
abbrev f20 : Fn := ⟨2, 4, b20⟩
def b21l0 : S := (.seq (.set 4 (.call 20 (.cons (.call 18 (.cons (.var 0) (.cons (.var 3) .nil))) (.cons (.con (.int 3)) .nil)))) (.seq (.set 5 (.comp none [] (.var 2) (.op2 .eq (.sl (.var 0) (.con .none) (.con (.int 2))) (.tup (.cons (.con (.str "some")) (.cons (.con (.str "each")) .nil)))) (.var 0))) (.seq (.ife (.and (.op2 .eq (.sl (.var 4) (.con .none) (.con (.int 2))) (.tup (.cons (.con (.str "some")) (.cons (.con (.str "each")) .nil)))) (.op2 .eq (.op1 .len (.var 5)) (.con (.int 2)))) (.set 4 (.tup (.cons (.con (.str "each")) (.cons (.con (.str "some")) (.cons (.op2 .ix (.var 4) (.con (.int 2))) .nil))))) .nx) (.set 2 (.op2 .add (.var 2) (.tup (.cons (.var 4) .nil)))))))
def b21 : S := (.seq (.set 2 (.tup .nil)) (.seq (.loop (.one 3) (.rng (.op2 .mod (.var 0) (.op2 .add (.var 1) (.con (.int 1))))) b21l0) (.ret (.var 2))))
abbrev f21 : Fn := ⟨2, 6, b21⟩
def b22l0 : S := (.app 3 (.op1 .toTuple (.comp none [0, 4] (.rng (.var 2)) (.op2 .eq (.op2 .mod (.op2 .fdiv (.call 18 (.cons (.var 1) (.cons (.op2 .add (.op2 .mul (.con (.int 10)) (.var 2)) (.var 0)) .nil))) (.con (.int 4))) (.con (.int 2))) (.con (.int 1))) (.var 0))))
def b22l1 : S := (.ife (.op2 .lt (.op2 .mod (.op2 .fdiv (.call 18 (.cons (.var 0) (.cons (.op2 .add (.op2 .add (.con (.int 30)) (.op2 .mul (.con (.int 8)) (.var 7))) (.var 8)) .nil))) (.con (.int 4))) (.con (.int 5))) (.var 6)) (.app 5 (.tup (.cons (.var 7) (.cons (.var 8) .nil)))) .nx)
def b22l2 : S := (.loop (.one 8) (.rng (.var 2)) b22l1)
def b22 : S := (.seq (.set 2 (.op2 .add (.con (.int 1)) (.op2 .mod (.var 0) (.var 1)))) (.seq (.own 3 (.lst .nil)) (.seq (.loop (.one 4) (.tup (.cons (.con (.int 0)) (.cons (.con (.int 1)) .nil))) b22l0) (.seq (.own 5 (.lst .nil)) (.seq (.set 6 (.op2 .add (.con (.int 1)) (.op2 .mod (.op2 .fdiv (.var 0) (.con (.int 24))) (.con (.int 4))))) (.seq (.loop (.one 7) (.rng (.var 2)) b22l2) (.ret (.tup (.cons (.var 2) (.cons (.op2 .ix (.peek 3) (.con (.int 0))) (.cons (.op2 .ix (.peek 3) (.con (.int 1))) (.cons (.op1 .toTuple (.peek 5)) .nil))))))))))))
abbrev f22 : Fn := ⟨2, 9, b22⟩
def b23 : S := (.seq (.set 1 (.lst (.cons (.op1 .neg (.con (.int 1))) (.cons (.con (.int 0)) (.cons (.con (.int 1)) (.cons (.con (.int 2)) (.cons (.con (.int 4)) (.cons (.con (.bool true)) (.cons (.con (.bool false)) (.cons (.con .none) (.cons (.con (.str "")) (.cons (.con (.str "yes")) (.cons (.con (.str "no")) (.cons (.con (.str "each")) (.cons (.con (.str "some")) (.cons (.tup .nil) (.cons (.lst .nil) (.cons (.tup (.cons (.con (.int 0)) .nil)) (.cons (.tup (.cons (.con (.int 0)) (.cons (.con (.int 0)) .nil))) (.cons (.tup (.cons (.con (.int 1)) (.cons (.con (.int 0)) .nil))) (.cons (.lst (.cons (.con (.int 0)) .nil)) .nil))))))))))))))))))))) (.seq (.set 1 (.op2 .add (.var 1) (.lst (.cons (.tup (.cons (.con (.str "a")) (.cons (.con (.str "x")) .nil))) (.cons (.tup (.cons (.con (.str "to")) (.cons (.con (.str "x")) .nil))) (.cons (.tup (.cons (.con (.str "to")) (.cons (.con (.str "x")) (.cons (.con (.str "z")) .nil)))) (.cons (.tup (.cons (.con (.str "not")) (.cons (.con (.str "yes")) .nil))) (.cons (.tup (.cons (.con (.str "each")) (.cons (.con (.str "some")) (.cons (.con (.str "no")) .nil)))) (.cons (.tup (.cons (.con (.str "a")) (.cons (.con (.str "y")) .nil))) (.cons (.con (.str "x")) .nil)))))))))) (.ret (.op2 .ix (.op2 .add (.var 1) (.lst (.cons (.tup (.cons (.con (.int 0)) (.cons (.con (.bool true)) .nil))) (.cons (.tup (.cons (.con (.int 0)) (.cons (.con (.int 4)) .nil))) (.cons (.tup (.cons (.con (.str "b")) (.cons (.con (.int 0)) .nil))) (.cons (.tup (.cons (.con (.str "both")) (.cons (.con (.str "yes")) .nil))) (.cons (.tup (.cons (.tup (.cons (.con (.int 0)) (.cons (.con (.int 1)) .nil))) .nil)) (.cons (.op2 .pow (.con (.int 10)) (.con (.int 30))) .nil)))))))) (.op2 .mod (.var 0) (.con (.int 32)))))))
abbrev f23 : Fn := ⟨1, 2, b23⟩
def b24 : S := (.seq (.ife (.and (.op2 .gt (.var 2) (.con (.int 0))) (.and (.op1 .isTup (.var 0)) (.and (.op2 .gt (.op1 .len (.var 0)) (.con (.int 0))) (.op2 .gt (.op2 .mod (.var 1) (.con (.int 6))) (.con (.int 0)))))) (.seq (.set 3 (.op2 .mod (.op2 .fdiv (.var 1) (.con (.int 6))) (.op1 .len (.var 0)))) (.seq (.set 4 (.call 24 (.cons (.op2 .ix (.var 0) (.var 3)) (.cons (.op2 .fdiv (.var 1) (.con (.int 126))) (.cons (.op2 .sub (.var 2) (.con (.int 1))) .nil))))) (.ret (.op2 .add (.op2 .add (.sl (.var 0) (.con .none) (.var 3)) (.tup (.cons (.var 4) .nil))) (.sl (.var 0) (.op2 .add (.var 3) (.con (.int 1))) (.con .none)))))) .nx) (.seq (.ife (.and (.op1 .isTup (.var 0)) (.and (.op2 .gt (.op1 .len (.var 0)) (.con (.int 0))) (.op2 .eq (.op2 .mod (.op2 .fdiv (.var 1) (.con (.int 6))) (.con (.int 2))) (.con (.int 0))))) (.ret (.op2 .ix (.lst (.cons (.op1 .toList (.var 0)) (.cons (.sl (.var 0) (.con .none) (.op1 .neg (.con (.int 1)))) (.cons (.op2 .add (.var 0) (.sl (.var 0) (.op1 .neg (.con (.int 1))) (.con .none))) (.cons (.sl (.var 0) (.con (.int 1)) (.con .none)) (.cons (.op1 .rev (.var 0)) (.cons (.op2 .mul (.var 0) (.con (.int 2))) .nil))))))) (.op2 .mod (.op2 .fdiv (.var 1) (.con (.int 12))) (.con (.int 6))))) .nx) (.seq (.ife (.and (.op1 .isInt (.var 0)) (.op2 .eq (.op2 .mod (.op2 .fdiv (.var 1) (.con (.int 6))) (.con (.int 2))) (.con (.int 0)))) (.ret (.op2 .ix (.lst (.cons (.op1 .toStr (.var 0)) (.cons (.op1 .neg (.var 0)) (.cons (.op2 .add (.var 0) (.con (.int 1))) (.cons (.op2 .eq (.var 0) (.con (.int 1))) (.cons (.op2 .sub (.con (.int 1)) (.var 0)) (.cons (.op2 .add (.var 0) (.con (.int 4))) .nil))))))) (.op2 .mod (.op2 .fdiv (.var 1) (.con (.int 12))) (.con (.int 6))))) .nx) (.ret (.call 23 (.cons (.op2 .fdiv (.var 1) (.con (.int 6))) .nil))))))
abbrev f24 : Fn := ⟨3, 5, b24⟩
def b25 : S := (.ret (.and (.op1 .isInt (.var 0)) (.and (.not (.op1 .isBool (.var 0))) (.chain .le .le (.con (.int 0)) (.var 0) (.var 1)))))
abbrev f25 : Fn := ⟨2, 2, b25⟩
def b27l0 : S := (.ife (.or (.not (.op1 .isStr (.var 3))) (.and (.op2 .ne (.var 3) (.con (.str "each"))) (.op2 .ne (.var 3) (.con (.str "some"))))) (.ret (.con (.bool false))) .nx)
def b27l1 : S := (.seq (.ife (.or (.not (.op1 .isTup (.var 2))) (.or (.op2 .ne (.op1 .len (.var 2)) (.con (.int 3))) (.not (.call 26 (.cons (.op2 .ix (.var 2) (.con (.int 2))) (.cons (.con (.int 5)) .nil)))))) (.ret (.con (.bool false))) .nx) (.seq (.loop (.one 3) (.sl (.var 2) (.con .none) (.con (.int 2))) b27l0) (.set 1 (.op2 .add (.var 1) (.op1 .toInt (.and (.op2 .eq (.op2 .ix (.var 2) (.con (.int 0))) (.con (.str "some"))) (.op2 .eq (.op2 .ix (.var 2) (.con (.int 1))) (.con (.str "each")))))))))
def b27 : S := (.seq (.ife (.or (.not (.op1 .isTup (.var 0))) (.op2 .gt (.op1 .len (.var 0)) (.con (.int 4)))) (.ret (.con (.bool false))) .nx) (.seq (.set 1 (.con (.int 0))) (.seq (.loop (.one 2) (.var 0) b27l1) (.ret (.op2 .le (.var 1) (.con (.int 2)))))))
abbrev f27 : Fn := ⟨1, 4, b27⟩
def b29 : S := (.ret (.and (.op1 .isBool (.var 0)) (.op2 .eq (.var 0) (.var 1))))
abbrev f29 : Fn := ⟨2, 2, b29⟩
def b30l0 : S := (.set 2 (.op2 .ix (.tup (.cons (.tup (.cons (.con (.str "not")) (.cons (.var 2) .nil))) (.cons (.tup (.cons (.con (.str "both")) (.cons (.var 2) (.cons (.con (.str "yes")) .nil)))) (.cons (.tup (.cons (.con (.str "either")) (.cons (.con (.str "no")) (.cons (.var 2) .nil)))) .nil)))) (.op2 .mod (.op2 .fdiv (.call 18 (.cons (.var 1) (.cons (.var 3) .nil))) (.con (.int 4))) (.con (.int 3)))))
def b30 : S := (.seq (.set 1 (.call 17 (.cons (.var 0) (.cons (.con (.int 0)) .nil)))) (.seq (.set 2 (.call 21 (.cons (.call 17 (.cons (.var 0) (.cons (.con (.int 1)) .nil))) (.cons (.con (.int 4)) .nil)))) (.seq (.ife (.op2 .eq (.op2 .mod (.var 1) (.con (.int 7))) (.con (.int 1))) (.set 2 (.sl (.op2 .add (.var 2) (.op2 .mul (.tup (.cons (.tup (.cons (.con (.str "each")) (.cons (.con (.str "each")) (.cons (.con (.str "yes")) .nil)))) .nil)) (.con (.int 5)))) (.con .none) (.op2 .add (.con (.int 4)) (.op2 .mod (.op2 .fdiv (.var 1) (.con (.int 7))) (.con (.int 2)))))) .nx) (.seq (.ife (.op2 .eq (.op2 .mod (.var 1) (.con (.int 7))) (.con (.int 2))) (.set 2 (.op2 .add (.op2 .mul (.tup (.cons (.tup (.cons (.con (.str "some")) (.cons (.con (.str "each")) (.cons (.tup (.cons (.con (.str "a")) (.cons (.con (.str "x")) .nil))) .nil)))) .nil)) (.op2 .add (.con (.int 2)) (.op2 .mod (.op2 .fdiv (.var 1) (.con (.int 7))) (.con (.int 2))))) (.sl (.var 2) (.con .none) (.con (.int 1))))) .nx) (.seq (.ife (.op2 .eq (.op2 .mod (.op2 .fdiv (.var 1) (.con (.int 7))) (.con (.int 2))) (.con (.int 1))) (.set 2 (.call 24 (.cons (.var 2) (.cons (.call 17 (.cons (.var 0) (.cons (.con (.int 2)) .nil))) (.cons (.op2 .mod (.op2 .fdiv (.var 1) (.con (.int 14))) (.con (.int 8))) .nil))))) .nx) (.seq (.ife (.not (.call 29 (.cons (.call 9 (.cons (.var 2) .nil)) (.cons (.call 27 (.cons (.var 2) .nil)) .nil)))) (.ret (.con (.bool false))) .nx) (.seq (.set 2 (.call 19 (.cons (.call 17 (.cons (.var 0) (.cons (.con (.int 3)) .nil))) (.cons (.con (.int 3)) .nil)))) (.seq (.loop (.one 3) (.rng (.op2 .mod (.op2 .fdiv (.var 1) (.con (.int 64))) (.con (.int 5)))) b30l0) (.seq (.ife (.op2 .eq (.op2 .mod (.op2 .fdiv (.var 1) (.con (.int 512))) (.con (.int 2))) (.con (.int 1))) (.set 2 (.call 24 (.cons (.var 2) (.cons (.call 17 (.cons (.var 0) (.cons (.con (.int 4)) .nil))) (.cons (.op2 .mod (.op2 .fdiv (.var 1) (.con (.int 1024))) (.con (.int 6))) .nil))))) .nx) (.seq (.ife (.not (.call 29 (.cons (.call 6 (.cons (.var 2) .nil)) (.cons (.call 26 (.cons (.var 2) (.cons (.con (.int 5)) .nil))) .nil)))) (.ret (.con (.bool false))) .nx) (.seq (.set 2 (.call 22 (.cons (.call 17 (.cons (.var 0) (.cons (.con (.int 5)) .nil))) (.cons (.con (.int 5)) .nil)))) (.seq (.ife (.op2 .eq (.op2 .mod (.op2 .fdiv (.var 1) (.con (.int 4096))) (.con (.int 2))) (.con (.int 1))) (.set 2 (.call 24 (.cons (.var 2) (.cons (.call 17 (.cons (.var 0) (.cons (.con (.int 6)) .nil))) (.cons (.op2 .mod (.op2 .fdiv (.var 1) (.con (.int 8192))) (.con (.int 4))) .nil))))) .nx) (.ret (.call 29 (.cons (.call 15 (.cons (.var 2) .nil)) (.cons (.call 28 (.cons (.var 2) .nil)) .nil))))))))))))))))
abbrev f30 : Fn := ⟨1, 4, b30⟩
def b31 : S := (.seq (.ife (.op1 .isStr (.var 0)) (.ret (.var 0)) .nx) (.seq (.set 1 (.op2 .ix (.var 0) (.con (.int 0)))) (.seq (.ife (.op2 .eq (.var 1) (.con (.str "to"))) (.ret (.op2 .add (.op2 .ix (.var 0) (.con (.int 1))) (.op2 .ix (.var 0) (.con (.int 2))))) .nx) (.seq (.ife (.op2 .inn (.var 1) (.con (.tuple [(.str "a"), (.str "b")]))) (.ret (.op2 .add (.var 1) (.op2 .ix (.var 0) (.con (.int 1))))) .nx) (.ret (.op2 .join (.con (.str " ")) (.op2 .add (.lst (.cons (.var 1) .nil)) (.comp none [] (.sl (.var 0) (.con (.int 1)) (.con .none)) (.con (.bool true)) (.call 31 (.cons (.var 0) .nil))))))))))
abbrev f31 : Fn := ⟨1, 2, b31⟩
def b32 : S := (.ret (.op2 .join (.con (.str " ")) (.lst (.cons (.op2 .ix (.var 0) (.con (.int 0))) (.cons (.op2 .ix (.var 0) (.con (.int 1))) (.cons (.call 31 (.cons (.op2 .ix (.var 0) (.con (.int 2))) .nil)) .nil))))))
abbrev f32 : Fn := ⟨1, 1, b32⟩
def b33 : S := (.seq (.ife (.op2 .eq (.op1 .len (.var 0)) (.con (.int 0))) (.ret (.con (.str "-"))) .nx) (.ret (.op2 .join (.con (.str " ; ")) (.comp none [] (.var 0) (.con (.bool true)) (.call 32 (.cons (.var 0) .nil))))))
abbrev f33 : Fn := ⟨1, 1, b33⟩
def b34 : S := (.seq (.ife (.op1 .isStr (.var 0)) (.ret (.var 0)) .nx) (.seq (.ife (.op2 .eq (.op2 .ix (.var 0) (.con (.int 0))) (.con (.str "to"))) (.ret (.op2 .add (.op2 .ix (.var 0) (.con (.int 1))) (.op2 .ix (.var 0) (.con (.int 2))))) .nx) (.seq (.ife (.op2 .inn (.op2 .ix (.var 0) (.con (.int 0))) (.tup (.cons (.con (.str "a")) (.cons (.con (.str "b")) .nil)))) (.ret (.op2 .add (.op2 .ix (.var 0) (.con (.int 0))) (.op2 .ix (.var 0) (.con (.int 1))))) .nx) (.ret (.op2 .join (.con (.str " ")) (.op2 .add (.lst (.cons (.op2 .ix (.var 0) (.con (.int 0))) .nil)) (.comp none [] (.sl (.var 0) (.con (.int 1)) (.con .none)) (.con (.bool true)) (.call 34 (.cons (.var 0) .nil)))))))))
abbrev f34 : Fn := ⟨1, 1, b34⟩
def b35 : S := (.seq (.ife (.op2 .eq (.var 0) (.tup .nil)) (.ret (.con (.str "-"))) .nx) (.ret (.op2 .join (.con (.str " ; ")) (.comp (some 3) [] (.var 0) (.con (.bool true)) (.op2 .add (.op2 .add (.op2 .add (.op2 .add (.var 0) (.con (.str " "))) (.var 1)) (.con (.str " "))) (.call 34 (.cons (.var 2) .nil)))))))
abbrev f35 : Fn := ⟨1, 1, b35⟩
def b36 : S := (.seq (.set 1 (.call 21 (.cons (.call 17 (.cons (.var 0) (.cons (.con (.int 0)) .nil))) (.cons (.con (.int 4)) .nil)))) (.ret (.op2 .eq (.call 33 (.cons (.var 1) .nil)) (.call 35 (.cons (.var 1) .nil)))))
abbrev f36 : Fn := ⟨1, 2, b36⟩
end DD
set_option maxRecDepth 100000
set_option linter.unusedSimpArgs false
namespace DD
open PySem

/-! ### names and forms -/
inductive Nm where
  | x | y
def Nm.s : Nm → Str
  | .x => "x"
  | .y => "y"
inductive Fm where
  | yes | no | a (n : Nm) | b (n : Nm) | to (m n : Nm) | not (f : Fm) | both (f g : Fm) | either (f g : Fm)
def Fm.pv : Fm → PV
  | .yes => .str "yes"
  | .no => .str "no"
  | .a n => .tuple [.str "a", .str n.s]
  | .b n => .tuple [.str "b", .str n.s]
  | .to m n => .tuple [.str "to", .str m.s, .str n.s]
  | .not f => .tuple [.str "not", f.pv]
  | .both f g => .tuple [.str "both", f.pv, g.pv]
  | .either f g => .tuple [.str "either", f.pv, g.pv]
def Fm.dep : Fm → Nat
  | .yes | .no | .a _ | .b _ | .to _ _ => 0
  | .not f => f.dep + 1
  | .both f g => max f.dep g.dep + 1
  | .either f g => max f.dep g.dep + 1

theorem run_at {T : Tab} {k f : Nat} {args : List PV} {F : Fn} (h : T f = some F) (hl : args.length = F.np) :
    run T (k + 1) f args = outV (evS (run T k) F.body (start F args)) := run_succ h hl

/-! ### drawn numbers -/
def drawnD (n k : Int) : Int := (n + 104729 * k + 17) * 69621 % 2147483647
def drawnI (n k : Int) : Int := (drawnD n k * drawnD n k + 3 * drawnD n k + k) % 2147483629
theorem small_mod {n m : Int} (h0 : 0 < m) (h1 : m < 2 ^ 64) : small (n % m) = true := by
  unfold small
  have a := Int.emod_nonneg n (Int.ne_of_gt h0)
  have b := Int.emod_lt_of_pos n h0
  simp only [Bool.and_eq_true, decide_eq_true_eq]
  omega
theorem small_lit {i : Int} (h : small i = true) : small i = true := h
theorem drawn_run {T : Tab} (h : T 18 = some f18) (k : Nat) (n j : Int) : run T (k + 1) 18 [.int n, .int j] = some (.int (drawnI n j)) := by
  rw [run_at h rfl]
  have e : small (drawnD n j) = true := small_mod (by decide) (by decide)
  unfold drawnD at e
  simp [b18, drawnI, drawnD, e, show small 104729 = true from by decide, show small 69621 = true from by decide, show small 3 = true from by decide]

/-! ### drawn forms -/
theorem cases12 {i : Int} (h0 : 0 ≤ i) (h1 : i < 12) : i = 0 ∨ i = 1 ∨ i = 2 ∨ i = 3 ∨ i = 4 ∨ i = 5 ∨ i = 6 ∨ i = 7 ∨ i = 8 ∨ i = 9 ∨ i = 10 ∨ i = 11 := by omega
abbrev sx : Str := "x"
theorem leaf_at (i : Int) (h0 : 0 ≤ i) (h1 : i < 12) : ∃ f : Fm, f.dep = 0 ∧ atI [PyData.tuple [.str "a", .str "x"], .tuple [.str "a", .str "y"], .tuple [.str "b", .str "x"], .tuple [.str "b", .str "y"],
    .tuple [.str "to", .str "x", .str "y"], .tuple [.str "to", .str "y", .str "x"], .tuple [.str "to", .str "x", .str "y"], .tuple [.str "to", .str "x", .str "x"], .tuple [.str "to", .str "y", .str "y"], .tuple [.str "to", .str "y", .str "x"],
    .str "yes", .str "no"] i = some f.pv := by
  rcases cases12 h0 h1 with h | h | h | h | h | h | h | h | h | h | h | h <;> subst h
  · exact ⟨.a .x, rfl, rfl⟩
  · exact ⟨.a .y, rfl, rfl⟩
  · exact ⟨.b .x, rfl, rfl⟩
  · exact ⟨.b .y, rfl, rfl⟩
  · exact ⟨.to .x .y, rfl, rfl⟩
  · exact ⟨.to .y .x, rfl, rfl⟩
  · exact ⟨.to .x .y, rfl, rfl⟩
  · exact ⟨.to .x .x, rfl, rfl⟩
  · exact ⟨.to .y .y, rfl, rfl⟩
  · exact ⟨.to .y .x, rfl, rfl⟩
  · exact ⟨.yes, rfl, rfl⟩
  · exact ⟨.no, rfl, rfl⟩
theorem eqv_int (i j : Int) : PyData.eqv (.int i) (.int j) = (i == j) := by simp [PyData.eqv]
theorem eqv_str (i j : Str) : PyData.eqv (.str i) (.str j) = (i == j) := by simp [PyData.eqv]
theorem form_ex {T : Tab} (h18 : T 18 = some f18) (h19 : T 19 = some f19) : ∀ (d : Nat) (n : Int) (k : Nat), ∃ f : Fm, f.dep ≤ d ∧ run T (k + d + 2) 19 [.int n, .int d] = some f.pv := by
  intro d
  induction d using Nat.strongRecOn with
  | _ d ih =>
    intro n k
    rw [run_at h19 rfl]
    obtain ⟨fl, dl, el⟩ := leaf_at (n / 10 % 12) (by omega) (by omega)
    by_cases hk : n % 10 < 3 ∨ d = 0
    · refine ⟨fl, by omega, ?_⟩
      by_cases hd : d = 0
      · subst hd
        simp [b19, eqv_int, el, PyData.depth]
      · have hk' : n % 10 < 3 := by omega
        simp [b19, eqv_int, hk', hd, el, PyData.depth]
    · have hd : ¬ d = 0 := by omega
      have hn : ¬ n % 10 < 3 := by omega
      obtain ⟨d', rfl⟩ : ∃ d', d = d' + 1 := ⟨d - 1, by omega⟩
      obtain ⟨g1, q1, r1⟩ := ih d' (by omega) (drawnI n 1) k
      obtain ⟨g2, q2, r2⟩ := ih d' (by omega) (drawnI n 2) k
      have e1 : (((d' + 1 : Nat) : Int) - 1) = (d' : Int) := by omega
      have a1 := drawn_run h18 (k + d' + 1) n 1
      have a2 := drawn_run h18 (k + d' + 1) n 2
      have ek : k + (d' + 1) + 1 = k + d' + 2 := by omega
      rw [ek]
      have hdn : ¬ ((d' : Int) + 1 = 0) := by omega
      by_cases h3 : n % 10 = 3
      · refine ⟨.not g1, by simp only [Fm.dep]; omega, ?_⟩
        simp [b19, eqv_int, h3, PyData.depth, a1, r1, Fm.pv, hdn]
      · by_cases h6 : n % 10 < 6 ∧ 0 < d'
        · obtain ⟨d2, rfl⟩ : ∃ d2, d' = d2 + 1 := ⟨d' - 1, by omega⟩
          obtain ⟨g3, q3, r3⟩ := ih d2 (by omega) (drawnI n 1) (k + 1)
          have e2 : (((d2 + 1 + 1 : Nat) : Int) - 2) = (d2 : Int) := by omega
          have ek3 : k + 1 + d2 + 2 = k + (d2 + 1) + 2 := by omega
          rw [ek3] at r3
          refine ⟨.either (.not g3) g2, by simp only [Fm.dep]; omega, ?_⟩
          have hd1 : (1 : Int) < (d2 : Int) + 1 + 1 := by omega
          have e1' : (d2 : Int) + 1 + 1 - 1 = (d2 : Int) + 1 := by omega
          have e2' : (d2 : Int) + 1 + 1 - 2 = (d2 : Int) := by omega
          simp only [Int.natCast_add, Int.natCast_one] at r1 r2
          have hdn : ¬ ((d2 : Int) + 1 + 1 = 0) := by omega
          simp [b19, eqv_int, hn, h3, h6.1, hd1, PyData.depth, a1, a2, r1, r2, r3, Fm.pv, e1', e2', hdn]
        · have hc : n % 10 < 6 → ¬ (1 : Int) < (d' : Int) + 1 := by omega
          rcases (by omega : n % 10 % 2 = 0 ∨ n % 10 % 2 = 1) with hp | hp
          · refine ⟨.both g1 g2, by simp only [Fm.dep]; omega, ?_⟩
            by_cases h66 : n % 10 < 6
            · simp [b19, eqv_int, hn, h3, h66, hc h66, PyData.depth, a1, a2, r1, r2, Fm.pv, hdn, hp, atI, ixN]
            · simp [b19, eqv_int, hn, h3, h66, PyData.depth, a1, a2, r1, r2, Fm.pv, hdn, hp, atI, ixN]
          · refine ⟨.either g1 g2, by simp only [Fm.dep]; omega, ?_⟩
            by_cases h66 : n % 10 < 6
            · simp [b19, eqv_int, hn, h3, h66, hc h66, PyData.depth, a1, a2, r1, r2, Fm.pv, hdn, hp, atI, ixN]
            · simp [b19, eqv_int, hn, h3, h66, PyData.depth, a1, a2, r1, r2, Fm.pv, hdn, hp, atI, ixN]

end DD
set_option maxRecDepth 100000
set_option linter.unusedSimpArgs false
namespace DD
open PySem
/-! ### loops and comprehensions -/
theorem loop_by {tg : Tg} {g : Env → Option Out} (I : Nat → Env → Prop) : ∀ (xs : List PV) (k : Nat), (∀ i x ρ, xs[i]? = some x → I (k + i) ρ → ∃ ρ1 ρ2, bindS tg x ρ = some ρ1 ∧ g ρ1 = some (.nx ρ2) ∧ I (k + i + 1) ρ2) →
    ∀ ρ, I k ρ → ∃ ρ', loopF tg g xs ρ = some (.nx ρ') ∧ I (k + xs.length) ρ'
  | [], k, _, ρ, h => ⟨ρ, rfl, h⟩
  | x :: xs, k, hs, ρ, h => by
    obtain ⟨ρ1, ρ2, e1, e2, h2⟩ := hs 0 x ρ rfl h
    obtain ⟨ρ', e3, h3⟩ := loop_by (tg := tg) (g := g) I xs (k + 1) (fun i y ρ e h => by
      have := hs (i + 1) y ρ (by simpa using e) (by rw [show k + (i + 1) = k + 1 + i from by omega]; exact h)
      rw [show k + (i + 1) + 1 = k + 1 + i + 1 from by omega] at this
      exact this) ρ2 h2
    refine ⟨ρ', ?_, ?_⟩
    · unfold loopF
      rw [e1, bnd_some, e2, turnO_nx]
      exact e3
    · rw [List.length_cons, show k + (xs.length + 1) = k + 1 + xs.length from by omega]
      exact h3
theorem comp_by {α : Type} {g : PV → Option (Option PV)} (c : α → PV) (p : α → Bool) (f : α → PV) : ∀ (xs : List α), (∀ x ∈ xs, g (c x) = some (if p x then some (f x) else none)) → compF g (xs.map c) = some ((xs.filter p).map f)
  | [], _ => rfl
  | x :: xs, h => by
    have h1 := h x List.mem_cons_self
    have h2 := comp_by c p f xs fun y hy => h y (List.mem_cons_of_mem _ hy)
    rw [List.map_cons]
    unfold compF
    rw [h1, h2]
    cases hp : p x <;> simp [hp]
theorem comp_all {α : Type} {g : PV → Option (Option PV)} (c f : α → PV) (xs : List α) (h : ∀ x ∈ xs, g (c x) = some (some (f x))) : compF g (xs.map c) = some (xs.map f) := by
  have := comp_by (g := g) c (fun _ => true) f xs fun x hx => by simpa using h x hx
  rw [this]; congr 2; exact List.filter_eq_self.mpr fun _ _ => rfl

/-! ### demands and rows -/
inductive Qt where
  | each | some
  deriving DecidableEq
def Qt.s : Qt → Str
  | .each => "each"
  | .some => "some"
structure Dm where
  one : Qt
  other : Qt
  f : Fm
def Dm.pv (d : Dm) : PV := .tuple [.str d.one.s, .str d.other.s, d.f.pv]
def Dm.mark (d : Dm) : Bool := decide (d.one = .some) && decide (d.other = .each)
def rowPv (r : List Dm) : PV := .tuple (r.map Dm.pv)
theorem mark_eqv (a b : Qt) : PyData.eqv (.tuple [.str a.s, .str b.s]) (.tuple [.str "some", .str "each"]) = (decide (a = .some) && decide (b = .each)) := by
  cases a <;> cases b <;> decide +kernel
theorem depth_two (a b : Str) : (PyData.tuple [.str a, .str b]).depth = 1 := by simp [PyData.depth, PyData.depthAll]
theorem demand_ex {T : Tab} (h18 : T 18 = some f18) (h19 : T 19 = some f19) (h20 : T 20 = some f20) (e : Nat) (n : Int) (k : Nat) : ∃ d : Dm, d.f.dep ≤ e ∧ run T (k + e + 3) 20 [.int n, .int e] = some d.pv := by
  rw [run_at h20 rfl]
  obtain ⟨f, hf, rf⟩ := form_ex h18 h19 e (n / 12) k
  have one : ∃ a : Qt, atI [PyData.str "each", .str "each", .str "each", .str "some"] (n % 4) = some (.str a.s) := by
    rcases (by omega : n % 4 = 0 ∨ n % 4 = 1 ∨ n % 4 = 2 ∨ n % 4 = 3) with h | h | h | h <;> rw [h]
    · exact ⟨.each, rfl⟩
    · exact ⟨.each, rfl⟩
    · exact ⟨.each, rfl⟩
    · exact ⟨.some, rfl⟩
  have two : ∃ a : Qt, atI [PyData.str "some", .str "each", .str "some"] (n / 4 % 3) = some (.str a.s) := by
    rcases (by omega : n / 4 % 3 = 0 ∨ n / 4 % 3 = 1 ∨ n / 4 % 3 = 2) with h | h | h <;> rw [h]
    · exact ⟨.some, rfl⟩
    · exact ⟨.each, rfl⟩
    · exact ⟨.some, rfl⟩
  obtain ⟨a, ea⟩ := one
  obtain ⟨b, eb⟩ := two
  refine ⟨⟨a, b, f⟩, hf, ?_⟩
  simp [b20, ea, eb, rf, Dm.pv]

def marks (r : List Dm) : Nat := (r.filter Dm.mark).length
structure RowOk (m e : Nat) (r : List Dm) : Prop where
  len : r.length ≤ m
  dep : ∀ d ∈ r, d.f.dep ≤ e
  two : marks r ≤ 2
theorem cut2 (a b c : PV) : cut [a, b, c] none (some 2) = [a, b] := by
  simp [cut, sIx]
theorem depth_int (i : Int) : (PyData.int i).depth = 0 := by simp [PyData.depth]
theorem depth_str (i : Str) : (PyData.str i).depth = 0 := by simp [PyData.depth]
theorem rng_run {cf : Nat → List PV → Option PV} {a : E} {ρ : Env} {j : Nat} (h : evE cf a ρ = some (.int j)) (hj : j ≤ 1000000) : evE cf (.rng a) ρ = some (.list ((List.range j).map fun k => .int (k : Nat))) := by
  rw [evE, h, bnd_some]
  have c : -1000000 ≤ (0 : Int) ∧ (0 : Int) ≤ 1000000 ∧ -1000000 ≤ (j : Int) ∧ (j : Int) ≤ 1000000 := ⟨by decide, by decide, by omega, by omega⟩
  simp only [rngI, rngF]
  rw [if_pos c]
  simp
theorem loop_run {cf : Nat → List PV → Option PV} {t : Tg} {it : E} {body : S} {ρ : Env} {p : PV} {xs : List PV} {o : Option Out} (h : evE cf it ρ = some p) (hx : seqOf p = some xs) (hl : loopF t (evS cf body) xs ρ = o) : evS cf (.loop t it body) ρ = o := by
  rw [evS, h, bnd_some, hx]; exact hl
theorem marks_snoc (r : List Dm) (d : Dm) : marks (r ++ [d]) = marks r + (if d.mark then 1 else 0) := by
  unfold marks
  rw [List.filter_append, List.length_append]
  cases h : d.mark <;> simp [h]
theorem mark_is (d : Dm) : PyData.eqv (.tuple [.str d.one.s, .str d.other.s]) (.tuple [.str "some", .str "each"]) = d.mark := mark_eqv d.one d.other
theorem seq_nx {cf : Nat → List PV → Option PV} {a b : S} {ρ ρ1 : Env} {o : Option Out} (h1 : evS cf a ρ = some (.nx ρ1)) (h2 : evS cf b ρ1 = o) : evS cf (.seq a b) ρ = o := by
  rw [evS, h1]; exact h2
theorem seq_rt {cf : Nat → List PV → Option PV} {a b : S} {ρ : Env} {p : PV} (h1 : evS cf a ρ = some (.rt p)) : evS cf (.seq a b) ρ = some (.rt p) := by
  rw [evS, h1]; rfl
theorem set_nx {cf : Nat → List PV → Option PV} {i : Nat} {e : E} {ρ : Env} {p : PV} (h : evE cf e ρ = some p) : evS cf (.set i e) ρ = some (.nx (ρ.set i (.val p))) := by
  rw [evS, h]; rfl
theorem ret_rt {cf : Nat → List PV → Option PV} {e : E} {ρ : Env} {p : PV} (h : evE cf e ρ = some p) : evS cf (.ret e) ρ = some (.rt p) := by
  rw [evS, h]; rfl
theorem ife_t {cf : Nat → List PV → Option PV} {c : E} {a b : S} {ρ : Env} {p : PV} {o : Option Out} (h : evE cf c ρ = some p) (t : truthF p = some true) (h2 : evS cf a ρ = o) : evS cf (.ife c a b) ρ = o := by
  rw [evS, h, bnd_some, t]; exact h2
theorem ife_f {cf : Nat → List PV → Option PV} {c : E} {a b : S} {ρ : Env} {p : PV} {o : Option Out} (h : evE cf c ρ = some p) (t : truthF p = some false) (h2 : evS cf b ρ = o) : evS cf (.ife c a b) ρ = o := by
  rw [evS, h, bnd_some, t]; exact h2
theorem ife_b {cf : Nat → List PV → Option PV} {c : E} {a b : S} {ρ : Env} {t : Bool} {o : Option Out} (h : evE cf c ρ = some (.bool t)) (h1 : t = true → evS cf a ρ = o) (h2 : t = false → evS cf b ρ = o) : evS cf (.ife c a b) ρ = o := by
  cases t with
  | true => exact ife_t h rfl (h1 rfl)
  | false => exact ife_f h rfl (h2 rfl)
theorem row_marks (cf : Nat → List PV → Option PV) (r : List Dm) (ρ : Env) (e : evE cf (.var 2) ρ = some (rowPv r)) :
    evE cf (.comp none [] (.var 2) (.op2 .eq (.sl (.var 0) (.con .none) (.con (.int 2))) (.tup (.cons (.con (.str "some")) (.cons (.con (.str "each")) .nil)))) (.var 0)) ρ = some (.list ((r.filter Dm.mark).map Dm.pv)) := by
  rw [evE, e]
  simp only [rowPv, bnd_some, seqOf]
  rw [comp_by Dm.pv Dm.mark Dm.pv r]
  · rfl
  · intro d _
    simp [Dm.pv, cut2, depth_two, mark_is]
    cases h : d.mark <;> simp
theorem row_turn {T : Tab} (h18 : T 18 = some f18) (h19 : T 19 = some f19) (h20 : T 20 = some f20) (k : Nat) (n j : Int) (m : PV) (r : List Dm) (hr : marks r ≤ 2) (hl : r.length ≤ 100) (s4 s5 : Sl) :
    ∃ (d : Dm) (t4 t5 : Sl), d.f.dep ≤ 3 ∧ marks (r ++ [d]) ≤ 2 ∧
      evS (run T (k + 6)) b21l0 [.val (.int n), .val m, .val (rowPv r), .val (.int j), s4, s5] = some (.nx [.val (.int n), .val m, .val (rowPv (r ++ [d])), .val (.int j), t4, t5]) := by
  obtain ⟨d, hd, ed⟩ := demand_ex h18 h19 h20 3 (drawnI n j) k
  have ed' : run T (k + 6) 20 [.int (drawnI n j), .int 3] = some d.pv := ed
  have em := row_marks (run T (k + 6)) r [.val (.int n), .val m, .val (rowPv r), .val (.int j), .val d.pv, s5] (by simp)
  have dr := drawn_run h18 (k + 5) n j
  have hll : r.length + 1 ≤ 16777216 := by omega
  have hml : ((r.filter Dm.mark).length : Int) = (marks r : Int) := rfl
  refine ⟨if d.mark = true ∧ marks r = 2 then ⟨.each, .some, d.f⟩ else d, .val (if d.mark = true ∧ marks r = 2 then (⟨.each, .some, d.f⟩ : Dm) else d).pv, .val (.list ((r.filter Dm.mark).map Dm.pv)), ?_, ?_, ?_⟩
  · split <;> exact hd
  · rw [marks_snoc]
    split
    · have : (⟨.each, .some, d.f⟩ : Dm).mark = false := rfl
      rw [this]; simpa using hr
    · rename_i hc
      cases hm : d.mark with
      | false => simpa using hr
      | true => have : marks r ≠ 2 := fun z => hc ⟨hm, z⟩
                simp; omega
  · unfold b21l0
    refine seq_nx (set_nx (p := d.pv) (by simp [dr, ed'])) ?_
    refine seq_nx (set_nx em) ?_
    have ec : evE (run T (k + 6)) (.and (.op2 .eq (.sl (.var 4) (.con .none) (.con (.int 2))) (.tup (.cons (.con (.str "some")) (.cons (.con (.str "each")) .nil)))) (.op2 .eq (.op1 .len (.var 5)) (.con (.int 2))))
        [.val (.int n), .val m, .val (rowPv r), .val (.int j), .val d.pv, .val (.list ((r.filter Dm.mark).map Dm.pv))] = some (.bool (decide (d.mark = true ∧ marks r = 2))) := by
      cases hm : d.mark with
      | false => simp [Dm.pv, cut2, depth_two, mark_is, hm]
      | true =>
        have hq : (((r.filter Dm.mark).length : Int) == 2) = decide (marks r = 2) := by
          rw [hml]
          by_cases h2 : marks r = 2
          · simp [h2]
          · have h3 : ¬ ((marks r : Nat) : Int) = 2 := by omega
            simp [h2, h3]
        simp [Dm.pv, cut2, depth_two, mark_is, hm, depth_int, eqv_int, hq]
    refine seq_nx (ρ1 := [.val (.int n), .val m, .val (rowPv r), .val (.int j), .val (if d.mark = true ∧ marks r = 2 then (⟨.each, .some, d.f⟩ : Dm) else d).pv, .val (.list ((r.filter Dm.mark).map Dm.pv))]) (ife_b ec (fun ht => ?_) (fun hf => ?_)) ?_
    · have ht' := of_decide_eq_true ht
      rw [if_pos ht']
      refine set_nx (by simp [Dm.pv, atI, ixN, Qt.s])
    · have hf' := of_decide_eq_false hf
      rw [if_neg hf']
      rfl
    · refine set_nx (p := rowPv (r ++ [if d.mark = true ∧ marks r = 2 then ⟨.each, .some, d.f⟩ else d])) ?_
      simp [rowPv, hll]
theorem row_ex {T : Tab} (h18 : T 18 = some f18) (h19 : T 19 = some f19) (h20 : T 20 = some f20) (h21 : T 21 = some f21) (m : Nat) (hm : m ≤ 10) (n : Int) (k : Nat) :
    ∃ r : List Dm, RowOk m 3 r ∧ run T (k + 7) 21 [.int n, .int m] = some (rowPv r) := by
  rw [run_at h21 rfl]
  have hm0 : (0 : Int) < (m : Int) + 1 := by omega
  have hn0 : 0 ≤ n % ((m : Int) + 1) := Int.emod_nonneg _ (by omega)
  have hn1 : n % ((m : Int) + 1) < (m : Int) + 1 := Int.emod_lt_of_pos _ hm0
  obtain ⟨j, ej⟩ : ∃ j : Nat, n % ((m : Int) + 1) = (j : Int) := ⟨(n % ((m : Int) + 1)).toNat, by omega⟩
  have hj : j ≤ m := by omega
  obtain ⟨ρ', e1, hI⟩ := loop_by (tg := .one 3) (g := evS (run T (k + 6)) b21l0)
    (fun i ρ => i ≤ m → ∃ r : List Dm, r.length = i ∧ (∀ d ∈ r, d.f.dep ≤ 3) ∧ marks r ≤ 2 ∧ ∃ s3 s4 s5, ρ = [.val (.int n), .val (.int m), .val (rowPv r), s3, s4, s5])
    ((List.range j).map fun k => .int (k : Nat)) 0 (fun i x ρ ex hI => by
      have hi : i < j := by simpa using (List.getElem?_eq_some_iff.mp ex).1
      have ex' : PyData.int (i : Nat) = x := by simpa [hi] using ex
      subst ex'
      by_cases him : 0 + i ≤ m
      · obtain ⟨r, hl, hd, h2, s3, s4, s5, rfl⟩ := hI him
        obtain ⟨d, t4, t5, dd, d2, ee⟩ := row_turn h18 h19 h20 k n (i : Nat) (.int m) r h2 (by omega) s4 s5
        refine ⟨_, _, rfl, ee, fun _ => ⟨r ++ [d], by simp [hl], fun c hc => ?_, d2, _, _, _, rfl⟩⟩
        rcases List.mem_append.mp hc with hc | hc
        · exact hd c hc
        · rw [List.mem_singleton.mp hc]; exact dd
      · omega) [.val (.int n), .val (.int m), .val (.tuple []), .un, .un, .un] (fun _ => ⟨[], rfl, by simp, by simp [marks], _, _, _, rfl⟩)
  obtain ⟨r, hl, hd, h2, s3, s4, s5, rfl⟩ := hI (by simp; omega)
  have hl' : r.length ≤ m := by rw [hl]; simp; omega
  refine ⟨r, ⟨hl', hd, h2⟩, ?_⟩
  have body : evS (run T (k + 6)) b21 (start f21 [.int n, .int m]) = some (.rt (rowPv r)) := by
    unfold b21
    refine seq_nx (set_nx (p := .tuple []) (by simp)) ?_
    refine seq_nx (loop_run (rng_run (j := j) ?_ (by omega)) rfl e1) (ret_rt (by simp))
    simp [hm0, ej]
  exact congrArg outV body
end DD
set_option maxRecDepth 100000
set_option linter.unusedSimpArgs false
namespace DD
open PySem

/-! ### the script -/
theorem cell_ex {T : Tab} (h16 : T 16 = some f16) (k : Nat) (ns : List Int) (j : Nat) : ∃ c : Int, run T (k + 1) 16 [.list (ns.map .int), .int j] = some (.int c) := by
  rw [run_at h16 rfl]
  by_cases h : (j : Int) < (ns.length : Int)
  · refine ⟨ns.getD j 0, ?_⟩
    have hj : j < ns.length := by omega
    simp [b16, h, atI, ixN, hj]
  · have hj : ¬ j < ns.length := by omega
    refine ⟨0, ?_⟩
    simp [b16, h, hj]
theorem mixed_ex {T : Tab} (h16 : T 16 = some f16) (h17 : T 17 = some f17) (k : Nat) (ns : List Int) (j : Nat) : ∃ c : Int, 0 ≤ c ∧ c < 2147483629 ∧ run T (k + 2) 17 [.list (ns.map .int), .int j] = some (.int c) := by
  obtain ⟨c, hc⟩ := cell_ex h16 k ns j
  rw [run_at h17 rfl]
  have e : small ((c + 7919 * (j : Int) + 1) * 48271 % 2147483647) = true := small_mod (by decide) (by decide)
  refine ⟨((c + 7919 * (j : Int) + 1) * 48271 % 2147483647 * ((c + 7919 * (j : Int) + 1) * 48271 % 2147483647) + 7 * ((c + 7919 * (j : Int) + 1) * 48271 % 2147483647) + j) % 2147483629, Int.emod_nonneg _ (by decide), Int.emod_lt_of_pos _ (by decide), ?_⟩
  simp [b17, hc, e, show small 7919 = true from by decide, show small 48271 = true from by decide, show small 7 = true from by decide]

/-! ### a form's words -/
def Fm.txt : Fm → Str
  | .yes => "yes"
  | .no => "no"
  | .a n => "a" ++ n.s
  | .b n => "b" ++ n.s
  | .to m n => m.s ++ n.s
  | .not f => joinS " " ["not", f.txt]
  | .both f g => joinS " " ["both", f.txt, g.txt]
  | .either f g => joinS " " ["either", f.txt, g.txt]
theorem len_app (x y : Str) : (x ++ y).length = x.length + y.length := by
  show (x.cps ++ y.cps).size = _
  rw [Array.size_append]; rfl
theorem len_nm (n : Nm) : n.s.length = 1 := by cases n <;> decide +kernel
theorem len_join2 (s x y : Str) : (joinS s [x, y]).length = x.length + s.length + y.length := by simp [joinS, len_app]
theorem len_join3 (s x y z : Str) : (joinS s [x, y, z]).length = x.length + s.length + (y.length + s.length + z.length) := by simp [joinS, len_app]
theorem lits : ("yes" : Str).length = 3 ∧ ("no" : Str).length = 2 ∧ ("a" : Str).length = 1 ∧ ("b" : Str).length = 1 ∧ ("not" : Str).length = 3 ∧ ("both" : Str).length = 4 ∧ ("either" : Str).length = 6 ∧ (" " : Str).length = 1 ∧ (" ; " : Str).length = 3 ∧ ("each" : Str).length = 4 ∧ ("some" : Str).length = 4 := by decide +kernel
theorem pow_max (a b : Nat) : 2 ^ a ≤ 2 ^ (max a b) ∧ 2 ^ b ≤ 2 ^ (max a b) := ⟨Nat.pow_le_pow_right (by decide) (Nat.le_max_left _ _), Nat.pow_le_pow_right (by decide) (Nat.le_max_right _ _)⟩
theorem txt_len : ∀ f : Fm, f.txt.length + 10 ≤ 14 * 2 ^ f.dep
  | .yes => by simp only [Fm.txt, Fm.dep]; have := lits; omega
  | .no => by simp only [Fm.txt, Fm.dep]; have := lits; omega
  | .a n => by simp only [Fm.txt, Fm.dep, len_app, len_nm]; have := lits; omega
  | .b n => by simp only [Fm.txt, Fm.dep, len_app, len_nm]; have := lits; omega
  | .to m n => by simp only [Fm.txt, Fm.dep, len_app, len_nm]; have := lits; omega
  | .not f => by
    have h := txt_len f
    have l := lits
    simp only [Fm.txt, Fm.dep, len_join2, Nat.pow_succ]
    omega
  | .both f g => by
    have h := txt_len f
    have h' := txt_len g
    have l := lits
    have p := pow_max f.dep g.dep
    simp only [Fm.txt, Fm.dep, len_join3, Nat.pow_succ]
    omega
  | .either f g => by
    have h := txt_len f
    have h' := txt_len g
    have l := lits
    have p := pow_max f.dep g.dep
    simp only [Fm.txt, Fm.dep, len_join3, Nat.pow_succ]
    omega
theorem txt_le {f : Fm} (h : f.dep ≤ 12) : f.txt.length ≤ 57344 := by
  have h1 := txt_len f
  have h2 : 2 ^ f.dep ≤ 2 ^ 12 := Nat.pow_le_pow_right (by decide) h
  omega
theorem eqs : (("not" : Str) == "to") = false ∧ (("both" : Str) == "to") = false ∧ (("either" : Str) == "to") = false ∧ (("a" : Str) == "to") = false ∧ (("b" : Str) == "to") = false ∧
    (("a" : Str) == "not") = false ∧ (("b" : Str) == "not") = false ∧ (("a" : Str) == "both") = false ∧ (("b" : Str) == "both") = false ∧ (("a" : Str) == "either") = false ∧ (("b" : Str) == "either") = false ∧ (("b" : Str) == "a") = false ∧ (("a" : Str) == "b") = false := by decide +kernel
theorem cut1_2 (a b : PV) : cut [a, b] (some 1) none = [b] := by simp [cut, sIx]
theorem cut1_3 (a b c : PV) : cut [a, b, c] (some 1) none = [b, c] := by simp [cut, sIx]
theorem words31 {T : Tab} (h31 : T 31 = some f31) : ∀ (f : Fm) (k : Nat), f.dep ≤ 12 → run T (k + f.dep + 1) 31 [f.pv] = some (.str f.txt)
  | .yes, k, _ => by rw [run_at h31 rfl]; simp [b31, Fm.pv, Fm.txt]
  | .no, k, _ => by rw [run_at h31 rfl]; simp [b31, Fm.pv, Fm.txt]
  | .a n, k, _ => by
    rw [run_at h31 rfl]
    have l := lits
    have ln := len_nm n
    simp [b31, Fm.pv, Fm.txt, atI, ixN, eqv_str, eqs, depth_str, l, ln, PyData.depthAll]
  | .b n, k, _ => by
    rw [run_at h31 rfl]
    have l := lits
    have ln := len_nm n
    simp [b31, Fm.pv, Fm.txt, atI, ixN, eqv_str, eqs, depth_str, l, ln, PyData.depthAll]
  | .to m n, k, _ => by
    rw [run_at h31 rfl]
    have lm := len_nm m
    have ln := len_nm n
    simp [b31, Fm.pv, Fm.txt, atI, ixN, eqv_str, eqs, depth_str, lm, ln]
  | .not f, k, hd => by
    have hd' : f.dep ≤ 12 := by simp only [Fm.dep] at hd; omega
    have ih := words31 h31 f k hd'
    rw [run_at h31 rfl]
    have l := lits
    have lt := txt_le hd'
    have e : k + (Fm.not f).dep = k + f.dep + 1 := by simp only [Fm.dep]; omega
    rw [e]
    have hl : 3 + f.txt.length + 2 ≤ 16777216 := by omega
    simp [b31, Fm.pv, Fm.txt, atI, ixN, eqv_str, eqs, depth_str, PyData.depthAll, cut1_2, compF, ih, l, hl]
  | .both f g, k, hd => by
    have hf : f.dep ≤ 12 := by simp only [Fm.dep] at hd; omega
    have hg : g.dep ≤ 12 := by simp only [Fm.dep] at hd; omega
    have i1 := run_le (j := k + max f.dep g.dep + 1) (by omega) (words31 h31 f k hf)
    have i2 := run_le (j := k + max f.dep g.dep + 1) (by omega) (words31 h31 g k hg)
    rw [run_at h31 rfl]
    have l := lits
    have l1 := txt_le hf
    have l2 := txt_le hg
    have e : k + (Fm.both f g).dep = k + max f.dep g.dep + 1 := by simp only [Fm.dep]; omega
    rw [e]
    have hl : 4 + (f.txt.length + g.txt.length) + 3 ≤ 16777216 := by omega
    simp [b31, Fm.pv, Fm.txt, atI, ixN, eqv_str, eqs, depth_str, PyData.depthAll, cut1_3, compF, i1, i2, l, hl]
  | .either f g, k, hd => by
    have hf : f.dep ≤ 12 := by simp only [Fm.dep] at hd; omega
    have hg : g.dep ≤ 12 := by simp only [Fm.dep] at hd; omega
    have i1 := run_le (j := k + max f.dep g.dep + 1) (by omega) (words31 h31 f k hf)
    have i2 := run_le (j := k + max f.dep g.dep + 1) (by omega) (words31 h31 g k hg)
    rw [run_at h31 rfl]
    have l := lits
    have l1 := txt_le hf
    have l2 := txt_le hg
    have e : k + (Fm.either f g).dep = k + max f.dep g.dep + 1 := by simp only [Fm.dep]; omega
    rw [e]
    have hl : 6 + (f.txt.length + g.txt.length) + 3 ≤ 16777216 := by omega
    simp [b31, Fm.pv, Fm.txt, atI, ixN, eqv_str, eqs, depth_str, PyData.depthAll, cut1_3, compF, i1, i2, l, hl]
end DD
set_option maxRecDepth 100000
set_option linter.unusedSimpArgs false
namespace DD
open PySem

theorem words34 {T : Tab} (h34 : T 34 = some f34) : ∀ (f : Fm) (k : Nat), f.dep ≤ 12 → run T (k + f.dep + 1) 34 [f.pv] = some (.str f.txt)
  | .yes, k, _ => by rw [run_at h34 rfl]; simp [b34, Fm.pv, Fm.txt]
  | .no, k, _ => by rw [run_at h34 rfl]; simp [b34, Fm.pv, Fm.txt]
  | .a n, k, _ => by
    rw [run_at h34 rfl]
    have l := lits
    have ln := len_nm n
    simp [b34, Fm.pv, Fm.txt, atI, ixN, eqv_str, eqs, depth_str, l, ln, PyData.depthAll]
  | .b n, k, _ => by
    rw [run_at h34 rfl]
    have l := lits
    have ln := len_nm n
    simp [b34, Fm.pv, Fm.txt, atI, ixN, eqv_str, eqs, depth_str, l, ln, PyData.depthAll]
  | .to m n, k, _ => by
    rw [run_at h34 rfl]
    have lm := len_nm m
    have ln := len_nm n
    simp [b34, Fm.pv, Fm.txt, atI, ixN, eqv_str, eqs, depth_str, lm, ln]
  | .not f, k, hd => by
    have hd' : f.dep ≤ 12 := by simp only [Fm.dep] at hd; omega
    have ih := words34 h34 f k hd'
    rw [run_at h34 rfl]
    have l := lits
    have lt := txt_le hd'
    have e : k + (Fm.not f).dep = k + f.dep + 1 := by simp only [Fm.dep]; omega
    rw [e]
    have hl : 3 + f.txt.length + 2 ≤ 16777216 := by omega
    simp [b34, Fm.pv, Fm.txt, atI, ixN, eqv_str, eqs, depth_str, PyData.depthAll, cut1_2, compF, ih, l, hl]
  | .both f g, k, hd => by
    have hf : f.dep ≤ 12 := by simp only [Fm.dep] at hd; omega
    have hg : g.dep ≤ 12 := by simp only [Fm.dep] at hd; omega
    have i1 := run_le (j := k + max f.dep g.dep + 1) (by omega) (words34 h34 f k hf)
    have i2 := run_le (j := k + max f.dep g.dep + 1) (by omega) (words34 h34 g k hg)
    rw [run_at h34 rfl]
    have l := lits
    have l1 := txt_le hf
    have l2 := txt_le hg
    have e : k + (Fm.both f g).dep = k + max f.dep g.dep + 1 := by simp only [Fm.dep]; omega
    rw [e]
    have hl : 4 + (f.txt.length + g.txt.length) + 3 ≤ 16777216 := by omega
    simp [b34, Fm.pv, Fm.txt, atI, ixN, eqv_str, eqs, depth_str, PyData.depthAll, cut1_3, compF, i1, i2, l, hl]
  | .either f g, k, hd => by
    have hf : f.dep ≤ 12 := by simp only [Fm.dep] at hd; omega
    have hg : g.dep ≤ 12 := by simp only [Fm.dep] at hd; omega
    have i1 := run_le (j := k + max f.dep g.dep + 1) (by omega) (words34 h34 f k hf)
    have i2 := run_le (j := k + max f.dep g.dep + 1) (by omega) (words34 h34 g k hg)
    rw [run_at h34 rfl]
    have l := lits
    have l1 := txt_le hf
    have l2 := txt_le hg
    have e : k + (Fm.either f g).dep = k + max f.dep g.dep + 1 := by simp only [Fm.dep]; omega
    rw [e]
    have hl : 6 + (f.txt.length + g.txt.length) + 3 ≤ 16777216 := by omega
    simp [b34, Fm.pv, Fm.txt, atI, ixN, eqv_str, eqs, depth_str, PyData.depthAll, cut1_3, compF, i1, i2, l, hl]

/-! ### a demand's text, a row's text -/
def Dm.txt (d : Dm) : Str := joinS " " [d.one.s, d.other.s, d.f.txt]
theorem len_qt (q : Qt) : q.s.length = 4 := by cases q <;> decide +kernel
theorem dtxt_le {d : Dm} (h : d.f.dep ≤ 12) : d.txt.length ≤ 57354 := by
  have l := txt_le h
  have := lits
  unfold Dm.txt
  rw [len_join3, len_qt, len_qt]
  omega
theorem app_assoc (x y z : Str) : x ++ y ++ z = x ++ (y ++ z) := by
  show (⟨x.cps ++ y.cps ++ z.cps⟩ : Str) = ⟨x.cps ++ (y.cps ++ z.cps)⟩
  rw [Array.append_assoc]
theorem dtxt_eq (d : Dm) : d.one.s ++ " " ++ d.other.s ++ " " ++ d.f.txt = d.txt := by
  unfold Dm.txt joinS joinS joinS
  simp only [app_assoc]
theorem demand32 {T : Tab} (h31 : T 31 = some f31) (h32 : T 32 = some f32) (d : Dm) (hd : d.f.dep ≤ 12) (k : Nat) (hk : 14 ≤ k) : run T k 32 [d.pv] = some (.str d.txt) := by
  obtain ⟨j, rfl⟩ : ∃ j, k = j + 1 := ⟨k - 1, by omega⟩
  rw [run_at h32 rfl]
  have w := run_le (j := j) (by omega) (words31 h31 d.f 0 hd)
  have l := lits
  have l1 := txt_le hd
  have hl : 4 + (4 + d.f.txt.length) + 3 ≤ 16777216 := by omega
  simp [b32, Dm.pv, atI, ixN, w, l, len_qt, hl, Dm.txt]
theorem strs_map {α : Type} (c : α → Str) (xs : List α) : strsOf (xs.map fun x => PyData.str (c x)) = some (xs.map c) := by
  induction xs with
  | nil => rfl
  | cons x xs ih => simp [ih]
theorem sum_le {α : Type} (c : α → Str) (b : Nat) : ∀ (xs : List α), (∀ x ∈ xs, (c x).length ≤ b) → ((xs.map c).map Str.length).sum ≤ xs.length * b
  | [], _ => by simp
  | x :: xs, h => by
    have h1 := h x List.mem_cons_self
    have h2 := sum_le c b xs fun y hy => h y (List.mem_cons_of_mem _ hy)
    simp only [List.map_cons, List.sum_cons, List.length_cons, Nat.succ_mul]
    omega
def rowTxt (r : List Dm) : Str := if r.length = 0 then "-" else joinS " ; " (r.map Dm.txt)
theorem row_fits {r : List Dm} (hl : r.length ≤ 100) (hd : ∀ d ∈ r, d.f.dep ≤ 12) : ((r.map Dm.txt).map Str.length).sum + (r.map Dm.txt).length * (" ; " : Str).length ≤ 16777216 := by
  have h := sum_le Dm.txt 57354 r fun d h => dtxt_le (hd d h)
  have l := lits
  rw [List.length_map]
  have h2 : r.length * 57354 ≤ 100 * 57354 := Nat.mul_le_mul_right _ hl
  have h3 : r.length * (" ; " : Str).length ≤ 100 * 3 := by rw [l.2.2.2.2.2.2.2.2.1]; exact Nat.mul_le_mul_right _ hl
  omega
theorem eqv_nil (xs : List PV) : PyData.eqv (.tuple xs) (.tuple []) = decide (xs.length = 0) := by
  cases xs <;> simp [PyData.eqv, PyData.eqvAll]
theorem join_run {cf : Nat → List PV → Option PV} {e : E} {ρ : Env} {sep : Str} {α : Type} {c : α → Str} {xs : List α} (h : evE cf e ρ = some (.list (xs.map fun x => .str (c x)))) (hl : ((xs.map c).map Str.length).sum + (xs.map c).length * sep.length ≤ 16777216) :
    evE cf (.op2 .join (.con (.str sep)) e) ρ = some (.str (joinS sep (xs.map c))) := by
  rw [evE, evE, bnd_some, h, bnd_some]
  simp only [opF2, joinF, strs_map, bnd_some]
  rw [if_pos hl]
theorem written33 {T : Tab} (h31 : T 31 = some f31) (h32 : T 32 = some f32) (h33 : T 33 = some f33) (r : List Dm) (hl : r.length ≤ 100) (hd : ∀ d ∈ r, d.f.dep ≤ 12) (k : Nat) (hk : 15 ≤ k) : run T k 33 [rowPv r] = some (.str (rowTxt r)) := by
  obtain ⟨j, rfl⟩ : ∃ j, k = j + 1 := ⟨k - 1, by omega⟩
  rw [run_at h33 rfl]
  unfold rowTxt
  have key : evS (run T j) b33 [.val (rowPv r)] = some (.rt (.str (if r.length = 0 then "-" else joinS " ; " (r.map Dm.txt)))) := by
    unfold b33
    by_cases h0 : r.length = 0
    · have : r = [] := List.length_eq_zero_iff.mp h0
      subst this
      simp [rowPv, depth_int, eqv_int]
    · have h0' : ¬ ((r.length : Int) = 0) := by omega
      refine seq_nx (ife_f (p := .bool false) (by simp [rowPv, depth_int, eqv_int]; intro z; exact h0 (by rw [z]; rfl)) rfl rfl) (ret_rt ?_)
      rw [if_neg h0]
      refine join_run (c := Dm.txt) ?_ (row_fits hl hd)
      rw [evE]
      simp only [evE, List.getElem?_cons_zero, bnd_some, Sl.get, rowPv, seqOf]
      rw [comp_all Dm.pv (fun d => .str d.txt) r]
      · rfl
      · intro d hm
        simp [demand32 h31 h32 d (hd d hm) j (by omega)]
  exact congrArg outV key
theorem text35 {T : Tab} (h34 : T 34 = some f34) (h35 : T 35 = some f35) (r : List Dm) (hl : r.length ≤ 100) (hd : ∀ d ∈ r, d.f.dep ≤ 12) (k : Nat) (hk : 15 ≤ k) : run T k 35 [rowPv r] = some (.str (rowTxt r)) := by
  obtain ⟨j, rfl⟩ : ∃ j, k = j + 1 := ⟨k - 1, by omega⟩
  rw [run_at h35 rfl]
  unfold rowTxt
  have key : evS (run T j) b35 [.val (rowPv r)] = some (.rt (.str (if r.length = 0 then "-" else joinS " ; " (r.map Dm.txt)))) := by
    unfold b35
    by_cases h0 : r.length = 0
    · have : r = [] := List.length_eq_zero_iff.mp h0
      subst this
      simp [rowPv, PyData.depth, PyData.depthAll, eqv_nil]
    · have dz : PyData.depth (.tuple []) = 1 := by simp [PyData.depth, PyData.depthAll]
      have mz : min (PyData.depth (rowPv r)) (PyData.depth (.tuple [])) ≤ 180 := by rw [dz]; omega
      refine seq_nx (ife_f (p := .bool false) ?_ rfl rfl) (ret_rt ?_)
      · have : PyData.eqv (rowPv r) (.tuple []) = false := by unfold rowPv; rw [eqv_nil]; simpa using h0
        simp [mz, this]
        simp [rowPv]
      rw [if_neg h0]
      refine join_run (c := Dm.txt) ?_ (row_fits hl hd)
      rw [evE]
      simp only [evE, List.getElem?_cons_zero, bnd_some, Sl.get, rowPv, seqOf]
      rw [comp_all Dm.pv (fun d => .str d.txt) r]
      · rfl
      · intro d hm
        have l := lits
        have l1 := txt_le (hd d hm)
        have hq := hd d hm
        have w := run_le (j := j) (by omega) (words34 h34 d.f 0 (hd d hm))
        have h1 : 10 + d.f.txt.length ≤ 16777216 := by omega
        simp [Dm.pv, len_qt, len_app, l, w, h1, dtxt_eq]
  exact congrArg outV key
/-! ### the law -/
theorem law02 {T : Tab} (h16 : T 16 = some f16) (h17 : T 17 = some f17) (h18 : T 18 = some f18) (h19 : T 19 = some f19) (h20 : T 20 = some f20) (h21 : T 21 = some f21)
    (h31 : T 31 = some f31) (h32 : T 32 = some f32) (h33 : T 33 = some f33) (h34 : T 34 = some f34) (h35 : T 35 = some f35) (h36 : T 36 = some f36) (ns : List Int) : run T 30 36 [.list (ns.map .int)] = some (.bool true) := by
  rw [run_at (k := 29) h36 rfl]
  obtain ⟨c, _, _, ec⟩ := mixed_ex h16 h17 27 ns 0
  obtain ⟨r, hr, er⟩ := row_ex h18 h19 h20 h21 4 (by omega) c 22
  have w := written33 h31 h32 h33 r (by have := hr.len; omega) (fun d h => by have := hr.dep d h; omega) 29 (by omega)
  have x := text35 h34 h35 r (by have := hr.len; omega) (fun d h => by have := hr.dep d h; omega) 29 (by omega)
  have ec' : run T 29 17 [.list (ns.map .int), .int 0] = some (.int c) := ec
  have er' : run T 29 21 [.int c, .int 4] = some (rowPv r) := er
  simp [b36, ec', er', w, x, depth_str, eqv_str]
end DD
set_option Elab.async false
set_option linter.all false
set_option maxRecDepth 100000
namespace DD
open PySem PySem.Spec PyProof.Rows L2
abbrev St := L2.St

/-! ### a value without a heap, and how the abstract heap G bears it -/
mutual
def Rp (K : PySem.W.Frag) (G : Hp) : PV → V → Prop
  | .none, v => v = .non
  | .bool b, v => v = .bl b
  | .int i, v => v = .int i
  | .str x, v => v = .str x ∧ PyData.strOk x = true ∧ x.length ≤ 16777216
  | .list ps, v => ∃ a vs, v = .ref a ∧ SqL K G a vs ∧ RpL K G ps vs
  | .tuple ps, v => ∃ a vs, v = .ref a ∧ SqT K G a vs ∧ RpL K G ps vs
  | .dict _, _ => False
def RpL (K : PySem.W.Frag) (G : Hp) : List PV → List V → Prop
  | [], vs => vs = []
  | p :: ps, vs => ∃ v r, vs = v :: r ∧ Rp K G p v ∧ RpL K G ps r
end

def Sub (G H : Hp) : Prop := ∀ a o, G a = some o → H a = some o
theorem Sub.refl (G : Hp) : Sub G G := fun _ _ h => h
theorem Sub.trans {G H I : Hp} (a : Sub G H) (b : Sub H I) : Sub G I := fun x o h => b x o (a x o h)
theorem Sub.rd {G H : Hp} (s : Sub G H) {a : Addr} {u : HO} (h : Rd G a u) : Rd H a u := by
  rcases h with h | ⟨o, h⟩
  · exact .inl (s _ _ h)
  · exact .inr ⟨o, s _ _ h⟩
theorem Sub.sqL {K : PySem.W.Frag} {G H : Hp} (s : Sub G H) {a : Addr} {xs : List V} (h : SqL K G a xs) : SqL K H a xs := h.elim (fun h => .inl (s.rd h)) .inr
theorem Sub.sqT {K : PySem.W.Frag} {G H : Hp} (s : Sub G H) {a : Addr} {xs : List V} (h : SqT K G a xs) : SqT K H a xs := h.elim (fun h => .inl (s.rd h)) .inr
mutual
theorem Rp.mono {K : PySem.W.Frag} {G H : Hp} (s : Sub G H) : ∀ {p : PV} {v : V}, Rp K G p v → Rp K H p v
  | .none, _, h => h
  | .bool _, _, h => h
  | .int _, _, h => h
  | .str _, _, h => h
  | .list ps, _, h => by
    obtain ⟨a, vs, e, q, r⟩ := (show ∃ a vs, _ = V.ref a ∧ SqL K G a vs ∧ RpL K G ps vs from h)
    exact ⟨a, vs, e, s.sqL q, RpL.mono s r⟩
  | .tuple ps, _, h => by
    obtain ⟨a, vs, e, q, r⟩ := (show ∃ a vs, _ = V.ref a ∧ SqT K G a vs ∧ RpL K G ps vs from h)
    exact ⟨a, vs, e, s.sqT q, RpL.mono s r⟩
  | .dict _, _, h => (show False from h).elim
theorem RpL.mono {K : PySem.W.Frag} {G H : Hp} (s : Sub G H) : ∀ {ps : List PV} {vs : List V}, RpL K G ps vs → RpL K H ps vs
  | [], _, h => h
  | p :: ps, _, h => by
    obtain ⟨v, r, e, h1, h2⟩ := (show ∃ v r, _ = v :: r ∧ Rp K G p v ∧ RpL K G ps r from h)
    exact ⟨v, r, e, Rp.mono s h1, RpL.mono s h2⟩
end
theorem RpL.length {K : PySem.W.Frag} {G : Hp} : ∀ {ps : List PV} {vs : List V}, RpL K G ps vs → ps.length = vs.length
  | [], _, h => by cases (show _ = [] from h); rfl
  | p :: ps, _, h => by
    obtain ⟨v, r, rfl, _, h2⟩ := (show ∃ v r, _ = v :: r ∧ Rp K G p v ∧ RpL K G ps r from h)
    simp [RpL.length h2]
theorem RpL.get {K : PySem.W.Frag} {G : Hp} : ∀ {ps : List PV} {vs : List V} {i : Nat} {p : PV}, RpL K G ps vs → ps[i]? = some p → ∃ v, vs[i]? = some v ∧ Rp K G p v
  | [], _, _, _, _, e => by simp at e
  | q :: ps, _, 0, p, h, e => by
    obtain ⟨v, r, rfl, h1, _⟩ := (show ∃ v r, _ = v :: r ∧ Rp K G q v ∧ RpL K G ps r from h)
    have e' : q = p := by simpa using e
    subst e'
    exact ⟨v, rfl, h1⟩
  | q :: ps, _, i + 1, p, h, e => by
    obtain ⟨v, r, rfl, _, h2⟩ := (show ∃ v r, _ = v :: r ∧ Rp K G q v ∧ RpL K G ps r from h)
    obtain ⟨w, e1, e2⟩ := RpL.get (i := i) h2 (by simpa using e)
    exact ⟨w, by simpa using e1, e2⟩
/-- by places from the values' side -/
theorem RpL.getV {K : PySem.W.Frag} {G : Hp} {ps : List PV} {vs : List V} {i : Nat} {v : V} (h : RpL K G ps vs) (e : vs[i]? = some v) : ∃ p, ps[i]? = some p ∧ Rp K G p v := by
  have hl := h.length
  have hi : i < vs.length := (List.getElem?_eq_some_iff.mp e).1
  have e1 : ps[i]? = some ps[i] := List.getElem?_eq_getElem (by omega)
  obtain ⟨w, e2, r⟩ := h.get e1
  rw [e] at e2
  cases e2
  exact ⟨_, e1, r⟩
theorem RpL.append {K : PySem.W.Frag} {G : Hp} : ∀ {ps qs : List PV} {vs ws : List V}, RpL K G ps vs → RpL K G qs ws → RpL K G (ps ++ qs) (vs ++ ws)
  | [], _, _, _, h, h' => by cases (show _ = [] from h); exact h'
  | p :: ps, _, _, _, h, h' => by
    obtain ⟨v, r, rfl, h1, h2⟩ := (show ∃ v r, _ = v :: r ∧ Rp K G p v ∧ RpL K G ps r from h)
    exact ⟨v, _, rfl, h1, RpL.append h2 h'⟩
theorem RpL.nil {K : PySem.W.Frag} {G : Hp} : RpL K G [] [] := rfl
theorem RpL.cons {K : PySem.W.Frag} {G : Hp} {p : PV} {ps : List PV} {v : V} {vs : List V} (h : Rp K G p v) (r : RpL K G ps vs) : RpL K G (p :: ps) (v :: vs) := ⟨v, vs, rfl, h, r⟩
theorem RpL.one {K : PySem.W.Frag} {G : Hp} {p : PV} {v : V} (h : Rp K G p v) : RpL K G [p] [v] := .cons h .nil
theorem RpL.take {K : PySem.W.Frag} {G : Hp} : ∀ {ps : List PV} {vs : List V} (n : Nat), RpL K G ps vs → RpL K G (ps.take n) (vs.take n)
  | _, _, 0, _ => rfl
  | [], _, _ + 1, h => by cases (show _ = [] from h); rfl
  | p :: ps, _, n + 1, h => by
    obtain ⟨v, r, rfl, h1, h2⟩ := (show ∃ v r, _ = v :: r ∧ Rp K G p v ∧ RpL K G ps r from h)
    exact ⟨v, _, rfl, h1, RpL.take n h2⟩
theorem RpL.drop {K : PySem.W.Frag} {G : Hp} : ∀ {ps : List PV} {vs : List V} (n : Nat), RpL K G ps vs → RpL K G (ps.drop n) (vs.drop n)
  | _, _, 0, h => h
  | [], _, _ + 1, h => by cases (show _ = [] from h); rfl
  | p :: ps, _, n + 1, h => by
    obtain ⟨v, r, rfl, h1, h2⟩ := (show ∃ v r, _ = v :: r ∧ Rp K G p v ∧ RpL K G ps r from h)
    exact RpL.drop n h2
theorem RpL.reverse {K : PySem.W.Frag} {G : Hp} : ∀ {ps : List PV} {vs : List V}, RpL K G ps vs → RpL K G ps.reverse vs.reverse
  | [], _, h => by cases (show _ = [] from h); rfl
  | p :: ps, _, h => by
    obtain ⟨v, r, rfl, h1, h2⟩ := (show ∃ v r, _ = v :: r ∧ Rp K G p v ∧ RpL K G ps r from h)
    rw [List.reverse_cons, List.reverse_cons]
    exact RpL.append (RpL.reverse h2) (.one h1)
theorem RpL.rep {K : PySem.W.Frag} {G : Hp} {ps : List PV} {vs : List V} (h : RpL K G ps vs) : ∀ k : Nat, RpL K G (List.replicate k ps).flatten (List.replicate k vs).flatten
  | 0 => rfl
  | k + 1 => by
    rw [List.replicate_succ, List.flatten_cons, List.replicate_succ, List.flatten_cons]
    exact h.append (RpL.rep h k)

/-! ### what an expression may do: new objects, nothing old changed, nothing old frozen -/
structure Ext (G H G' H' : Hp) : Prop where
  hh : Sub H H'
  gg : Sub G G'
  gh : Sub G' H'
  old : ∀ a o, H a = some o → G' a = G a
theorem Ext.refl {G H : Hp} (s : Sub G H) : Ext G H G H := ⟨.refl _, .refl _, s, fun _ _ _ => rfl⟩
theorem Ext.trans {G H G1 H1 G2 H2 : Hp} (a : Ext G H G1 H1) (b : Ext G1 H1 G2 H2) : Ext G H G2 H2 :=
  ⟨a.hh.trans b.hh, a.gg.trans b.gg, b.gh, fun x o h => (b.old x o (a.hh x o h)).trans (a.old x o h)⟩
theorem Sub.upd {G H : Hp} (s : Sub G H) (a : Addr) (o : HO) : Sub (L2.upd G a o) (L2.upd H a o) := fun b u h => by
  by_cases e : b = a
  · subst e; rw [upd_same] at h ⊢; exact h
  · rw [upd_ne e] at h ⊢; exact s b u h
theorem Sub.fresh {G H : Hp} (s : Sub G H) {a : Addr} (h : H a = none) : G a = none := by
  cases e : G a with
  | none => rfl
  | some o => rw [s a o e] at h; cases h
theorem Sub.new {H : Hp} {a : Addr} (h : H a = none) (o : HO) : Sub H (L2.upd H a o) := fun b u q => by rw [upd_ne (ne_of_none q h)]; exact q
/-- a new object, known to all -/
theorem Ext.new {G H : Hp} (s : Sub G H) {a : Addr} (h : H a = none) (o : HO) : Ext G H (L2.upd G a o) (L2.upd H a o) :=
  ⟨.new h o, .new (s.fresh h) o, s.upd a o, fun b u q => by rw [upd_ne (ne_of_none q h)]⟩
/-- a new object that one slot will hold alone -/
theorem Ext.own {G H : Hp} (s : Sub G H) {a : Addr} (h : H a = none) (o : HO) : Ext G H G (L2.upd H a o) :=
  ⟨.new h o, .refl _, s.trans (.new h o), fun _ _ _ => rfl⟩

/-! ### what an operation may look at: a list that a slot holds alone, too -/
def Rk (K : PySem.W.Frag) (G H : Hp) : PV → V → Prop
  | .list ps, v => ∃ a vs, v = .ref a ∧ SqL K H a vs ∧ RpL K G ps vs
  | p, v => Rp K G p v
theorem Rp.rk {K : PySem.W.Frag} {G H : Hp} (s : Sub G H) {p : PV} {v : V} (h : Rp K G p v) : Rk K G H p v := by
  cases p with
  | list ps =>
    obtain ⟨a, vs, e, q, r⟩ := (show ∃ a vs, _ = V.ref a ∧ SqL K G a vs ∧ RpL K G ps vs from h)
    exact ⟨a, vs, e, s.sqL q, r⟩
  | _ => exact h
theorem Rk.ext {K : PySem.W.Frag} {G H G' H' : Hp} (x : Ext G H G' H') {p : PV} {v : V} (h : Rk K G H p v) : Rk K G' H' p v := by
  cases p with
  | list ps =>
    obtain ⟨a, vs, e, q, r⟩ := (show ∃ a vs, _ = V.ref a ∧ SqL K H a vs ∧ RpL K G ps vs from h)
    exact ⟨a, vs, e, x.hh.sqL q, r.mono x.gg⟩
  | none => exact Rp.mono (K := K) (p := .none) x.gg h
  | bool b => exact Rp.mono (K := K) (p := .bool b) x.gg h
  | int i => exact Rp.mono (K := K) (p := .int i) x.gg h
  | str y => exact Rp.mono (K := K) (p := .str y) x.gg h
  | tuple ps => exact Rp.mono (K := K) (p := .tuple ps) x.gg h
  | dict kvs => exact (show False from h).elim

/-! ### the heap itself reads so -/
section
variable {X : Cx} {pins : List (Addr × Obj)} {σ : St} {G H : Hp} {s : Shared}
mutual
theorem Rp.reads (I : Inv X pins σ H s) (sb : Sub G H) : ∀ {p : PV} {v : V} {u : Value}, Rp X.K G p v → RelV v u → ∃ as, Reads s.heap u p as
  | .none, _, _, h, r => by cases (show _ = V.non from h); cases (show _ = Value.none from r); exact ⟨_, .none⟩
  | .bool b, _, _, h, r => by cases (show _ = V.bl b from h); cases (show _ = Value.bool b from r); exact ⟨_, .bool b⟩
  | .int i, _, _, h, r => by cases (show _ = V.int i from h); obtain ⟨t, rfl⟩ := r; exact ⟨_, .int i t⟩
  | .str x, _, _, h, r => by
    obtain ⟨e, _⟩ := (show _ = V.str x ∧ _ from h)
    cases e; obtain ⟨t, rfl⟩ := r; exact ⟨_, .str x t⟩
  | .list ps, _, _, h, r => by
    obtain ⟨a, vs, e, q, hr⟩ := (show ∃ a vs, _ = V.ref a ∧ SqL X.K G a vs ∧ RpL X.K G ps vs from h)
    cases e; cases (show _ = Value.ref a from r)
    obtain ⟨its, rv, ⟨o, n, e, hc, _, hd⟩, _⟩ := I.list (sb.sqL q)
    obtain ⟨as, ra⟩ := RpL.reads I sb hr rv
    exact ⟨_, .list e hc hd (by simpa using ra)⟩
  | .tuple ps, _, _, h, r => by
    obtain ⟨a, vs, e, q, hr⟩ := (show ∃ a vs, _ = V.ref a ∧ SqT X.K G a vs ∧ RpL X.K G ps vs from h)
    cases e; cases (show _ = Value.ref a from r)
    obtain ⟨its, rv, ⟨o, e, hc, n, hd⟩, _⟩ := I.tuple (sb.sqT q)
    obtain ⟨as, ra⟩ := RpL.reads I sb hr rv
    exact ⟨_, .tuple e hc hd (by simpa using ra)⟩
  | .dict _, _, _, h, _ => (show False from h).elim
theorem RpL.reads (I : Inv X pins σ H s) (sb : Sub G H) : ∀ {ps : List PV} {vs : List V} {us : List Value}, RpL X.K G ps vs → Vals vs us → ∃ as, ReadsAll s.heap us ps as
  | [], _, _, h, r => by cases (show _ = [] from h); cases r; exact ⟨_, .nil⟩
  | p :: ps, _, _, h, r => by
    obtain ⟨v, w, e, h1, h2⟩ := (show ∃ v r, _ = v :: r ∧ Rp X.K G p v ∧ RpL X.K G ps r from h)
    subst e
    cases r with
    | cons r1 r2 =>
      obtain ⟨as, a1⟩ := Rp.reads I sb h1 r1
      obtain ⟨bs, a2⟩ := RpL.reads I sb h2 r2
      exact ⟨_, .cons a1 a2⟩
end
mutual
theorem Rp.lays {K : PySem.W.Frag} : ∀ {p : PV} {v : V}, Rp K G p v → p.canLay0 = true
  | .none, _, _ => by simp [PyData.canLay0]
  | .bool _, _, _ => by simp [PyData.canLay0]
  | .int _, _, _ => by simp [PyData.canLay0]
  | .str x, _, h => by
    obtain ⟨_, e, _⟩ := (show _ = V.str x ∧ PyData.strOk x = true ∧ _ from h)
    simpa [PyData.canLay0] using e
  | .list ps, _, h => by
    obtain ⟨a, vs, e, q, hr⟩ := (show ∃ a vs, _ = V.ref a ∧ SqL K G a vs ∧ RpL K G ps vs from h)
    simpa [PyData.canLay0] using RpL.lays hr
  | .tuple ps, _, h => by
    obtain ⟨a, vs, e, q, hr⟩ := (show ∃ a vs, _ = V.ref a ∧ SqT K G a vs ∧ RpL K G ps vs from h)
    simpa [PyData.canLay0] using RpL.lays hr
  | .dict _, _, h => (show False from h).elim
theorem RpL.lays {K : PySem.W.Frag} : ∀ {ps : List PV} {vs : List V}, RpL K G ps vs → PyData.canLayAll0 ps = true
  | [], _, _ => by simp [PyData.canLayAll0]
  | p :: ps, _, h => by
    obtain ⟨v, w, e, h1, h2⟩ := (show ∃ v r, _ = v :: r ∧ Rp K G p v ∧ RpL K G ps r from h)
    simp [PyData.canLayAll0, Rp.lays h1, RpL.lays h2]
end
theorem Rk.reads (I : Inv X pins σ H s) (sb : Sub G H) {p : PV} {v : V} {u : Value} (h : Rk X.K G H p v) (r : RelV v u) : ∃ as, Reads s.heap u p as := by
  cases p with
  | list ps =>
    obtain ⟨a, vs, e, q, hr⟩ := (show ∃ a vs, _ = V.ref a ∧ SqL X.K H a vs ∧ RpL X.K G ps vs from h)
    cases e; cases (show _ = Value.ref a from r)
    obtain ⟨its, rv, ⟨o, n, e, hc, _, hd⟩, _⟩ := I.list q
    obtain ⟨as, ra⟩ := RpL.reads I sb hr rv
    exact ⟨_, .list e hc hd (by simpa using ra)⟩
  | none => exact Rp.reads (p := .none) I sb h r
  | bool b => exact Rp.reads (p := .bool b) I sb h r
  | int i => exact Rp.reads (p := .int i) I sb h r
  | str y => exact Rp.reads (p := .str y) I sb h r
  | tuple ps => exact Rp.reads (p := .tuple ps) I sb h r
  | dict kvs => exact Rp.reads (p := .dict kvs) I sb h r
theorem Rk.lays {K : PySem.W.Frag} {p : PV} {v : V} (h : Rk K G H p v) : p.canLay0 = true := by
  cases p with
  | list ps =>
    obtain ⟨a, vs, e, q, hr⟩ := (show ∃ a vs, _ = V.ref a ∧ SqL K H a vs ∧ RpL K G ps vs from h)
    simpa [PyData.canLay0] using RpL.lays hr
  | none => exact Rp.lays (K := K) (G := G) (p := .none) h
  | bool b => exact Rp.lays (K := K) (G := G) (p := .bool b) h
  | int i => exact Rp.lays (K := K) (G := G) (p := .int i) h
  | str y => exact Rp.lays (K := K) (G := G) (p := .str y) h
  | tuple ps => exact Rp.lays (K := K) (G := G) (p := .tuple ps) h
  | dict kvs => exact (show False from h).elim
end

/-! ### a frame's slots -/
def Slot1 (K : PySem.W.Frag) (G H : Hp) : Sl → Option V → Prop
  | .un, _ => True
  | .val p, o => ∃ v, o = some v ∧ Rp K G p v
  | .own ps, o => ∃ a vs, o = some (.ref a) ∧ H a = some (.lst vs) ∧ G a = none ∧ RpL K G ps vs
def isOwn : Sl → Bool
  | .own _ => true
  | _ => false
structure SR (K : PySem.W.Frag) (G H : Hp) (σ : St) (ρ : Env) : Prop where
  len : σ.length = ρ.length
  sub : Sub G H
  get : ∀ (i : Nat) (sl : Sl) (o : Option V), ρ[i]? = some sl → σ[i]? = some o → Slot1 K G H sl o
  apart : ∀ (i j : Nat) (si sj : Sl) (a : Addr), i ≠ j → ρ[i]? = some si → ρ[j]? = some sj → isOwn si = true → isOwn sj = true → σ[i]? = some (some (.ref a)) → σ[j]? ≠ some (some (.ref a))
theorem Slot1.ext {K : PySem.W.Frag} {G H G' H' : Hp} (x : Ext G H G' H') {sl : Sl} {o : Option V} (h : Slot1 K G H sl o) : Slot1 K G' H' sl o := by
  cases sl with
  | un => exact h
  | val p => obtain ⟨v, e, r⟩ := h; exact ⟨v, e, r.mono x.gg⟩
  | own ps =>
    obtain ⟨a, vs, e, h1, h2, r⟩ := h
    exact ⟨a, vs, e, x.hh _ _ h1, (x.old _ _ h1).trans h2, r.mono x.gg⟩
theorem SR.ext {K : PySem.W.Frag} {G H G' H' : Hp} {σ : St} {ρ : Env} (S : SR K G H σ ρ) (x : Ext G H G' H') : SR K G' H' σ ρ :=
  ⟨S.len, x.gh, fun i sl o e1 e2 => (S.get i sl o e1 e2).ext x, S.apart⟩
/-- a slot's value is there -/
theorem SR.at {K : PySem.W.Frag} {G H : Hp} {σ : St} {ρ : Env} (S : SR K G H σ ρ) {i : Nat} {sl : Sl} (e : ρ[i]? = some sl) : ∃ o, σ[i]? = some o ∧ Slot1 K G H sl o := by
  have hi : i < ρ.length := (List.getElem?_eq_some_iff.mp e).1
  have hi' : i < σ.length := by rw [S.len]; exact hi
  have e1 : σ[i]? = some σ[i] := List.getElem?_eq_getElem hi'
  exact ⟨_, e1, S.get i sl _ e e1⟩
theorem SR.setVal {K : PySem.W.Frag} {G H : Hp} {σ : St} {ρ : Env} (S : SR K G H σ ρ) {i : Nat} {p : PV} {v : V} (r : Rp K G p v) : SR K G H (σ.set i (some v)) (ρ.set i (.val p)) := by
  refine ⟨by simpa using S.len, S.sub, fun j sl o e1 e2 => ?_, fun j k sj sk a hjk e1 e2 o1 o2 e3 => ?_⟩
  · rw [List.getElem?_set] at e1 e2
    by_cases hij : i = j
    · rw [if_pos hij] at e1 e2
      split at e1
      · rename_i hl
        rw [if_pos (by rw [S.len]; exact hl)] at e2
        cases e1; cases e2
        exact ⟨v, rfl, r⟩
      · cases e1
    · rw [if_neg hij] at e1 e2
      exact S.get j sl o e1 e2
  · have own_ne : ∀ (m : Nat) (sl : Sl), (ρ.set i (.val p))[m]? = some sl → isOwn sl = true → i ≠ m ∧ ρ[m]? = some sl := fun m sl e h => by
      rw [List.getElem?_set] at e
      by_cases hij : i = m
      · rw [if_pos hij] at e
        split at e
        · cases e; cases h
        · cases e
      · rw [if_neg hij] at e; exact ⟨hij, e⟩
    obtain ⟨n1, f1⟩ := own_ne j sj e1 o1
    obtain ⟨n2, f2⟩ := own_ne k sk e2 o2
    rw [List.getElem?_set_ne n1] at e3
    rw [List.getElem?_set_ne n2]
    exact S.apart j k sj sk a hjk f1 f2 o1 o2 e3
end DD
set_option Elab.async false
set_option linter.all false
set_option maxRecDepth 100000
namespace DD
open PySem PySem.Spec PyProof.Rows L2

theorem line_eq : sizeLine = 16777216 := sizeLine_eq
theorem strOk_append {x y : Str} (hx : PyData.strOk x = true) (hy : PyData.strOk y = true) : PyData.strOk (x ++ y) = true := by
  show (x.cps ++ y.cps).all _ = true
  rw [Array.all_append]
  simp only [PyData.strOk] at hx hy
  rw [hx, hy]; rfl
theorem length_append (x y : Str) : (x ++ y).length = x.length + y.length := by
  show (x.cps ++ y.cps).size = _
  rw [Array.size_append]; rfl

/-- two operands, by values -/
def rOp2 (K : PySem.W.Frag) (o : Op2) : R2 := fun x y H Q => ∃ G p q r, Sub G H ∧ Rk K G H p x ∧ Rk K G H q y ∧ opF2 o p q = some r ∧ ∀ v G' H', Ext G H G' H' → Rp K G' r v → Q v H'
def rOp1 (K : PySem.W.Frag) (o : Op1) : V → Hp → VK → Prop := fun x H Q => ∃ G p r, Sub G H ∧ Rk K G H p x ∧ opF1 o p = some r ∧ ∀ v G' H', Ext G H G' H' → Rp K G' r v → Q v H'

section
variable {X : Cx}

/-! ### + -/
theorem op_catT0 : OpR X (binaryOp .Add) (fun x y H Q => ∃ a b xs ys, x = .ref a ∧ y = .ref b ∧ SqT X.K H a xs ∧ SqT X.K H b ys ∧ xs.length + ys.length ≤ sizeLine ∧
    (xs = [] → Q (.ref b) H) ∧ (xs ≠ [] → ys = [] → Q (.ref a) H) ∧ (xs ≠ [] → ys ≠ [] → ∀ p, H p = none → Q (.ref p) (upd H p (.tup (xs ++ ys))))) := by
  intro pins s σ H x y v u Q I rx ry h
  obtain ⟨a, b, xs, ys, rfl, rfl, ha, hb, hz, q0, q1, q2⟩ := h
  cases rx
  cases ry
  obtain ⟨its, r1, p1, _⟩ := I.tuple ha
  obtain ⟨its2, r2, p2, _⟩ := I.tuple hb
  obtain ⟨⟨cls, dd, data, sl⟩, ho, hc, n, hd⟩ := id p1
  obtain ⟨⟨cls2, dd2, data2, sl2⟩, ho2, hc2, n2, hd2⟩ := id p2
  simp only at hc hd hc2 hd2
  subst hc hd hc2 hd2
  have e : its.toArray ++ its2.toArray = (its ++ its2).toArray := by simp
  by_cases hv : its = []
  · exact concat_meets ⟨_, ho, rfl⟩ ⟨_, ho2, rfl⟩ noFill_tuple_add seq_tuple_add PySem.F.slot_tuple_add PySem.F.entry_tuple_add (PySem.F.args_tuple_add_2 _ _)
      (tuple_addW0 a b its.toArray its2.toArray n n2 dd dd2 sl sl2 (by simp [hv])) ⟨ho, ho2, .ref b, H, I, rfl, q0 (r1.nil_iff.mp hv)⟩
  · have hx : xs ≠ [] := fun z => hv (r1.nil_iff.mpr z)
    by_cases hw : its2 = []
    · exact concat_meets ⟨_, ho, rfl⟩ ⟨_, ho2, rfl⟩ noFill_tuple_add seq_tuple_add PySem.F.slot_tuple_add PySem.F.entry_tuple_add (PySem.F.args_tuple_add_2 _ _)
        (tuple_addW1 a b its.toArray its2.toArray n n2 dd dd2 sl sl2 (by simpa using hv) (by simp [hw])) ⟨ho, ho2, .ref a, H, I, rfl, q1 hx (r2.nil_iff.mp hw)⟩
    · refine concat_meets ⟨_, ho, rfl⟩ ⟨_, ho2, rfl⟩ noFill_tuple_add seq_tuple_add PySem.F.slot_tuple_add PySem.F.entry_tuple_add (PySem.F.args_tuple_add_2 _ _)
        (tuple_addW2 a b its.toArray its2.toArray n n2 dd dd2 sl sl2 (by simpa using hv) (by simpa using hw) (by rw [List.size_toArray, List.size_toArray, ← r1.length, ← r2.length]; exact hz)) ⟨ho, ho2, ?_⟩
      rw [e]
      refine ⟨.ref s.heap.objs.size, _, I.laid (t' := s.toks) (o := .tup (xs ++ ys)) (fun b ob q => Heap.get?_push_of_some _ q) (Nat.le_refl _) ?_, rfl, q2 hx (fun w => hw (r2.nil_iff.mpr w)) _ (I.hok.fresh (Nat.le_refl _))⟩
      exact ⟨by rw [List.length_append]; exact hz, _, r1.append r2, IsTup.new _ _⟩
theorem op_catL0 : OpR X (binaryOp .Add) (fun x y H Q => ∃ a b xs ys, x = .ref a ∧ y = .ref b ∧ SqL X.K H a xs ∧ SqL X.K H b ys ∧ xs.length + ys.length ≤ sizeLine ∧ ∀ p, H p = none → Q (.ref p) (upd H p (.lst (xs ++ ys)))) := by
  intro pins s σ H x y v u Q I rx ry h
  obtain ⟨a, b, xs, ys, rfl, rfl, ha, hb, hz, q⟩ := h
  cases rx
  cases ry
  obtain ⟨its, r1, p1, _⟩ := I.list ha
  obtain ⟨its2, r2, p2, _⟩ := I.list hb
  obtain ⟨⟨cls, dd, data, sl⟩, ho, hc, n, hd⟩ := id p1.isList
  obtain ⟨⟨cls2, dd2, data2, sl2⟩, ho2, hc2, n2, hd2⟩ := id p2.isList
  simp only at hc hd hc2 hd2
  subst hc hd hc2 hd2
  have e : its.toArray ++ its2.toArray = (its ++ its2).toArray := by simp
  refine concat_meets ⟨_, ho, rfl⟩ ⟨_, ho2, rfl⟩ noFill_list_add seq_list_add PySem.F.slot_list_add PySem.F.entry_list_add (PySem.F.args_list_add_2 _ _)
    (list_addW a b its.toArray its2.toArray n n2 dd dd2 sl sl2 (by rw [List.size_toArray, List.size_toArray, ← r1.length, ← r2.length]; exact hz)) ⟨ho, ho2, ?_⟩
  rw [e]
  refine ⟨.ref s.heap.objs.size, _, I.laid (t' := s.toks) (o := .lst (xs ++ ys)) (fun b ob q => Heap.get?_push_of_some _ q) (Nat.le_refl _) ?_, rfl, q _ (I.hok.fresh (Nat.le_refl _))⟩
  exact ⟨by rw [List.length_append]; exact hz, _, 0, r1.append r2, Heap.get?_push_size _ rfl⟩

theorem s_add : OpR X (binaryOp .Add) (rOp2 X.K .add) := by
  intro pins s σ H x y v u Q I rx ry h
  obtain ⟨G, p, q, r, sb, hp, hq, e, k⟩ := h
  cases p with
  | int i =>
    cases q with
    | int j =>
      cases (show some (PyData.int (i + j)) = some r from e)
      cases (show x = .int i from hp); cases (show y = .int j from hq)
      exact op_add pins s σ H _ _ v u Q I rx ry ⟨i, j, rfl, rfl, k _ G H (.refl sb) rfl⟩
    | _ => simp at e
  | str a =>
    cases q with
    | str b =>
      have e' : (if a.length + b.length ≤ 16777216 then some (PyData.str (a ++ b)) else none) = some r := e
      by_cases hl : a.length + b.length ≤ 16777216
      · rw [if_pos hl] at e'
        cases e'
        obtain ⟨e1, s1, l1⟩ := (show x = .str a ∧ PyData.strOk a = true ∧ a.length ≤ 16777216 from hp)
        obtain ⟨e2, s2, l2⟩ := (show y = .str b ∧ PyData.strOk b = true ∧ b.length ≤ 16777216 from hq)
        subst e1 e2
        exact op_add_str pins s σ H _ _ v u Q I rx ry ⟨a, b, rfl, rfl, by rw [line_eq]; exact hl, k _ G H (.refl sb) ⟨rfl, strOk_append s1 s2, by rw [length_append]; exact hl⟩⟩
      · rw [if_neg hl] at e'; cases e'
    | _ => simp at e
  | tuple xs =>
    cases q with
    | tuple ys =>
      have e' : (if xs.length + ys.length ≤ 16777216 then some (PyData.tuple (xs ++ ys)) else none) = some r := e
      by_cases hl : xs.length + ys.length ≤ 16777216
      · rw [if_pos hl] at e'
        cases e'
        obtain ⟨a, vs, rfl, q1, r1⟩ := (show ∃ a vs, x = V.ref a ∧ SqT X.K G a vs ∧ RpL X.K G xs vs from hp)
        obtain ⟨b, ws, rfl, q2, r2⟩ := (show ∃ a vs, y = V.ref a ∧ SqT X.K G a vs ∧ RpL X.K G ys vs from hq)
        refine op_catT0 pins s σ H _ _ v u Q I rx ry ⟨a, b, vs, ws, rfl, rfl, sb.sqT q1, sb.sqT q2, by rw [line_eq, ← r1.length, ← r2.length]; exact hl, fun z => ?_, fun z1 z2 => ?_, fun _ _ l hn => ?_⟩
        · have z' : xs = [] := List.length_eq_zero_iff.mp (by rw [r1.length, z]; rfl)
          exact k _ G H (.refl sb) ⟨b, ws, rfl, q2, by rw [z']; exact r2⟩
        · have z' : ys = [] := List.length_eq_zero_iff.mp (by rw [r2.length, z2]; rfl)
          exact k _ G H (.refl sb) ⟨a, vs, rfl, q1, by rw [z', List.append_nil]; exact r1⟩
        · have x1 := Ext.new sb hn (.tup (vs ++ ws))
          exact k _ _ _ x1 ⟨l, _, rfl, SqT.of upd_same, (r1.append r2).mono x1.gg⟩
      · rw [if_neg hl] at e'; cases e'
    | _ => simp at e
  | list xs =>
    cases q with
    | list ys =>
      have e' : (if xs.length + ys.length ≤ 16777216 then some (PyData.list (xs ++ ys)) else none) = some r := e
      by_cases hl : xs.length + ys.length ≤ 16777216
      · rw [if_pos hl] at e'
        cases e'
        obtain ⟨a, vs, rfl, q1, r1⟩ := (show ∃ a vs, x = V.ref a ∧ SqL X.K H a vs ∧ RpL X.K G xs vs from hp)
        obtain ⟨b, ws, rfl, q2, r2⟩ := (show ∃ a vs, y = V.ref a ∧ SqL X.K H a vs ∧ RpL X.K G ys vs from hq)
        refine op_catL0 pins s σ H _ _ v u Q I rx ry ⟨a, b, vs, ws, rfl, rfl, q1, q2, by rw [line_eq, ← r1.length, ← r2.length]; exact hl, fun l hn => ?_⟩
        have x1 := Ext.new sb hn (.lst (vs ++ ws))
        exact k _ _ _ x1 ⟨l, _, rfl, SqL.of upd_same, (r1.append r2).mono x1.gg⟩
      · rw [if_neg hl] at e'; cases e'
    | _ => simp at e
  | _ => cases q <;> simp at e

/-! ### -, *, //, % on ints -/
theorem s_sub : OpR X (binaryOp .Sub) (rOp2 X.K .sub) := by
  intro pins s σ H x y v u Q I rx ry h
  obtain ⟨G, p, q, r, sb, hp, hq, e, k⟩ := h
  cases p with
  | int i =>
    cases q with
    | int j =>
      cases (show some (PyData.int (i - j)) = some r from e)
      cases (show x = .int i from hp); cases (show y = .int j from hq)
      exact op_sub pins s σ H _ _ v u Q I rx ry ⟨i, j, rfl, rfl, k _ G H (.refl sb) rfl⟩
    | _ => simp at e
  | _ => cases q <;> simp at e
theorem small_of {i : Int} (h : small i = true) : -(2 ^ 64) < i ∧ i < 2 ^ 64 := by
  unfold small at h
  rw [Bool.and_eq_true] at h
  exact ⟨of_decide_eq_true h.1, of_decide_eq_true h.2⟩
theorem s_fdiv : OpR X (binaryOp .FloorDiv) (rOp2 X.K .fdiv) := by
  intro pins s σ H x y v u Q I rx ry h
  obtain ⟨G, p, q, r, sb, hp, hq, e, k⟩ := h
  cases p with
  | int i =>
    cases q with
    | int j =>
      have e' : (if 0 < j ∧ j < 1073741824 then some (PyData.int (i / j)) else none) = some r := e
      by_cases hl : 0 < j ∧ j < 1073741824
      · rw [if_pos hl] at e'
        cases e'
        cases (show x = .int i from hp); cases (show y = .int j from hq)
        exact op_fdiv pins s σ H _ _ v u Q I rx ry ⟨i, j, rfl, rfl, hl, k _ G H (.refl sb) rfl⟩
      · rw [if_neg hl] at e'; cases e'
    | _ => simp at e
  | _ => cases q <;> simp at e
theorem s_mod : OpR X (binaryOp .Mod) (rOp2 X.K .mod) := by
  intro pins s σ H x y v u Q I rx ry h
  obtain ⟨G, p, q, r, sb, hp, hq, e, k⟩ := h
  cases p with
  | int i =>
    cases q with
    | int j =>
      have e' : (if 0 < j then some (PyData.int (i % j)) else none) = some r := e
      by_cases hl : 0 < j
      · rw [if_pos hl] at e'
        cases e'
        cases (show x = .int i from hp); cases (show y = .int j from hq)
        exact op_mod pins s σ H _ _ v u Q I rx ry ⟨i, j, rfl, rfl, hl, k _ G H (.refl sb) rfl⟩
      · rw [if_neg hl] at e'; cases e'
    | _ => simp at e
  | _ => cases q <;> simp at e

/-! ### comparisons -/
theorem s_cmpI {op : CmpOp} {f : Int → Int → Bool} {o : Op2} (ho : OpR X (compareOp op) (rI0 fun i j => .bl (f i j))) (hf : opF2 o = cmpI f) : OpR X (compareOp op) (rOp2 X.K o) := by
  intro pins s σ H x y v u Q I rx ry h
  obtain ⟨G, p, q, r, sb, hp, hq, e, k⟩ := h
  rw [hf] at e
  cases p with
  | int i =>
    cases q with
    | int j =>
      cases (show some (PyData.bool (f i j)) = some r from e)
      cases (show x = .int i from hp); cases (show y = .int j from hq)
      exact ho pins s σ H _ _ v u Q I rx ry ⟨i, j, rfl, rfl, k _ G H (.refl sb) rfl⟩
    | _ => simp at e
  | _ => cases q <;> simp at e
theorem s_le : OpR X (compareOp .LtE) (rOp2 X.K .le) := s_cmpI op_le rfl
theorem s_gt : OpR X (compareOp .Gt) (rOp2 X.K .gt) := s_cmpI op_gt rfl
theorem s_ge : OpR X (compareOp .GtE) (rOp2 X.K .ge) := s_cmpI op_ge rfl

theorem eqF_inv {p q : PV} {b : Bool} (h : eqF p q = some b) : min p.depth q.depth ≤ 180 ∧ b = PyData.eqv p q := by
  unfold eqF at h
  split at h
  · cases h
  · split at h
    · rename_i hd
      cases h
      exact ⟨hd, rfl⟩
    · cases h
theorem s_eq (hu : X.A.units + 190 < cLine) : OpR X (compareOp .Eq) (rOp2 X.K .eq) := by
  intro pins s σ H x y v u Q I rx ry h
  obtain ⟨G, p, q, r, sb, hp, hq, e, k⟩ := h
  obtain ⟨b, e1, e2⟩ := bnd_eq.mp (show bnd (eqF p q) (fun b => some (PyData.bool b)) = some r from e)
  cases e2
  obtain ⟨hd, rfl⟩ := eqF_inv e1
  obtain ⟨as, ra⟩ := hp.reads I sb rx
  obtain ⟨bs, rb⟩ := hq.reads I sb ry
  exact SeqAt.compareEq_reads ra rb hp.lays hq.lays (by omega) ⟨.bl _, H, I, rfl, k _ G H (.refl sb) rfl⟩
theorem s_ne (hu : X.A.units + 190 < cLine) : OpR X (compareOp .NotEq) (rOp2 X.K .ne) := by
  intro pins s σ H x y v u Q I rx ry h
  obtain ⟨G, p, q, r, sb, hp, hq, e, k⟩ := h
  obtain ⟨b, e1, e2⟩ := bnd_eq.mp (show bnd (eqF p q) (fun b => some (PyData.bool (!b))) = some r from e)
  cases e2
  obtain ⟨hd, rfl⟩ := eqF_inv e1
  obtain ⟨as, ra⟩ := hp.reads I sb rx
  obtain ⟨bs, rb⟩ := hq.reads I sb ry
  exact SeqAt.compareNe_reads ra rb hp.lays hq.lays (by omega) ⟨.bl _, H, I, rfl, k _ G H (.refl sb) rfl⟩
theorem inF_inv {p q : PV} {b : Bool} (h : inF p q = some b) : ∃ ys, (q = .list ys ∨ q = .tuple ys) ∧ min (PyData.depthAll ys) p.depth ≤ 180 ∧ b = ys.any fun y => PyData.eqv y p := by
  cases q with
  | list ys =>
    simp only [inF] at h
    split at h
    · cases h
    · split at h
      · rename_i hd
        cases h
        exact ⟨ys, .inl rfl, hd, rfl⟩
      · cases h
  | tuple ys =>
    simp only [inF] at h
    split at h
    · cases h
    · split at h
      · rename_i hd
        cases h
        exact ⟨ys, .inr rfl, hd, rfl⟩
      · cases h
  | _ => cases h
theorem canAll_of {p : PV} {ys : List PV} (h : p = .list ys ∨ p = .tuple ys) (hc : p.canLay0 = true) : PyData.canLayAll0 ys = true := by
  rcases h with rfl | rfl <;> simpa [PyData.canLay0] using hc
theorem s_in (hu : X.A.units + 190 < cLine) : OpR X (compareOp .In) (rOp2 X.K .inn) := by
  intro pins s σ H x y v u Q I rx ry h
  obtain ⟨G, p, q, r, sb, hp, hq, e, k⟩ := h
  obtain ⟨b, e1, e2⟩ := bnd_eq.mp (show bnd (inF p q) (fun b => some (PyData.bool b)) = some r from e)
  cases e2
  obtain ⟨ys, hy, hd, rfl⟩ := inF_inv e1
  obtain ⟨as, ra⟩ := hp.reads I sb rx
  obtain ⟨bs, rb⟩ := hq.reads I sb ry
  have hc := canAll_of hy hq.lays
  have fin : EP X pins σ Q (.bool (ys.any fun y => PyData.eqv y p)) s := ⟨.bl _, H, I, rfl, k _ G H (.refl sb) rfl⟩
  rcases hy with rfl | rfl
  · exact SeqAt.in_list_reads rb ra hc hp.lays (by omega) fin
  · exact SeqAt.in_tuple_reads rb ra hc hp.lays (by omega) fin
theorem s_nin (hu : X.A.units + 190 < cLine) : OpR X (compareOp .NotIn) (rOp2 X.K .nin) := by
  intro pins s σ H x y v u Q I rx ry h
  obtain ⟨G, p, q, r, sb, hp, hq, e, k⟩ := h
  obtain ⟨b, e1, e2⟩ := bnd_eq.mp (show bnd (inF p q) (fun b => some (PyData.bool (!b))) = some r from e)
  cases e2
  obtain ⟨ys, hy, hd, rfl⟩ := inF_inv e1
  obtain ⟨as, ra⟩ := hp.reads I sb rx
  obtain ⟨bs, rb⟩ := hq.reads I sb ry
  have hc := canAll_of hy hq.lays
  have fin : EP X pins σ Q (.bool (!ys.any fun y => PyData.eqv y p)) s := ⟨.bl _, H, I, rfl, k _ G H (.refl sb) rfl⟩
  rcases hy with rfl | rfl
  · exact SeqAt.notIn_list_reads rb ra hc hp.lays (by omega) fin
  · exact SeqAt.notIn_tuple_reads rb ra hc hp.lays (by omega) fin
end
end DD
set_option Elab.async false
set_option linter.all false
set_option maxRecDepth 100000
namespace DD
open PySem PySem.Spec PyProof.Rows L2

section
variable {X : Cx}

/-! ### a[i] -/
theorem ixN_eq : @DD.ixN = L2.ixN := by funext n i; rfl
theorem atI_eq {α : Type} (xs : List α) (i : Int) : DD.atI xs i = L2.atI xs i := rfl
theorem at_rel {K : PySem.W.Frag} {G : Hp} {ps : List PV} {vs : List V} {i : Int} {p : PV} (r : RpL K G ps vs) (e : DD.atI ps i = some p) : ∃ v, L2.atI vs i = some v ∧ Rp K G p v := by
  unfold DD.atI at e
  cases q : DD.ixN ps.length i with
  | none => rw [q] at e; cases e
  | some j =>
    rw [q] at e
    obtain ⟨v, ev, rv⟩ := r.get (i := j) e
    refine ⟨v, ?_, rv⟩
    unfold L2.atI
    have q' : L2.ixN vs.length i = some j := by rw [← r.length]; exact q
    rw [q']; exact ev
theorem strOk_char {x : Str} {c : Nat} (h : PyData.strOk x = true) (hc : c ∈ x.cps.toList) : PyData.strOk ⟨#[c]⟩ = true := by
  unfold PyData.strOk at h ⊢
  rw [Array.all_eq_true_iff_forall_mem] at h ⊢
  intro y hy
  have : y = c := by simpa using hy
  subst this
  exact h y (by simpa using hc)
theorem s_ix : IxR X (rOp2 X.K .ix) := by
  intro value slice pins s σ H x y v u Q I rx ry h hs
  obtain ⟨G, p, q, r, sb, hp, hq, e, k⟩ := h
  cases q with
  | int i =>
    cases (show y = .int i from hq)
    cases p with
    | tuple xs =>
      obtain ⟨a, vs, rfl, q1, r1⟩ := (show ∃ a vs, x = V.ref a ∧ SqT X.K G a vs ∧ RpL X.K G xs vs from hp)
      obtain ⟨w, ew, rw'⟩ := at_rel r1 (show DD.atI xs i = some r from e)
      exact ix_tup value slice pins s σ H _ _ v u Q I rx ry ⟨a, vs, i, w, rfl, rfl, sb.sqT q1, ew, k _ G H (.refl sb) rw'⟩ hs
    | list xs =>
      obtain ⟨a, vs, rfl, q1, r1⟩ := (show ∃ a vs, x = V.ref a ∧ SqL X.K H a vs ∧ RpL X.K G xs vs from hp)
      obtain ⟨w, ew, rw'⟩ := at_rel r1 (show DD.atI xs i = some r from e)
      exact ix_list value slice pins s σ H _ _ v u Q I rx ry ⟨a, vs, i, w, rfl, rfl, q1, ew, k _ G H (.refl sb) rw'⟩ hs
    | str z =>
      obtain ⟨rfl, so, sl⟩ := (show x = .str z ∧ PyData.strOk z = true ∧ z.length ≤ 16777216 from hp)
      obtain ⟨c, ec, er⟩ := bnd_eq.mp (show bnd (DD.atI z.cps.toList i) (fun c => some (PyData.str ⟨#[c]⟩)) = some r from e)
      cases er
      have hm : c ∈ z.cps.toList := by
        obtain ⟨j, _, ej, _⟩ := atI_get (show L2.atI z.cps.toList i = some c from ec)
        exact List.mem_of_getElem? ej
      exact ix_str value slice pins s σ H _ _ v u Q I rx ry ⟨z, i, c, rfl, rfl, by rw [line_eq]; exact sl, ec, k _ G H (.refl sb) ⟨rfl, strOk_char so hm, by show 1 ≤ 16777216; omega⟩⟩ hs
    | _ => simp at e
  | _ => cases p <;> simp at e

/-! ### a[lo:hi] -/
theorem sIx_eq (n d : Nat) (o : Option Int) : DD.sIx n d o = HT.sIx n d o := by cases o <;> rfl
theorem cut_rel {K : PySem.W.Frag} {G : Hp} {ps : List PV} {vs : List V} (lo hi : Option Int) (r : RpL K G ps vs) : RpL K G (cut ps lo hi) (cutV vs lo hi) := by
  unfold cut cutV
  rw [sIx_eq, sIx_eq, r.length]
  exact (r.drop _).take _
theorem getItem_tuple_whole {prog : Program} {w : World} {A : Around} {E : Value → Shared → Prop} {s : Shared} {t sl : Addr} {items : Array Value} {vl vu : Value} {lo hi : Option Int} {Q : Value → Shared → Prop} (ht : IsTup s.heap t items) (hs : s.heap.IsSliceOf sl vl vu .none)
    (pl : IsPart vl lo) (pu : IsPart vu hi) (h0 : HT.sIx items.size 0 lo = 0) (h1 : HT.sIx items.size items.size hi = items.size) (h : Q (.ref t) s) : wpAny (model prog w) A (getItem (.ref t) (.ref sl)) Q E s := by
  obtain ⟨os, hos, hcs, hds⟩ := id hs
  have hTs : s.TypeIs (.ref sl) "slice" := ⟨os, hos, hcs⟩
  unfold getItem
  try with_reducible refine wpAny_holding ?_
  first | refine wpAny_bind (wpAny_pure ?_) | skip
  refine wpAny_bind (wpAny_sequenceKey ht.typeIs (by decide) ?_)
  refine wpAny_bind (wpAny_callSpecial?_slot (name := Str.ofString "__getitem__") ht.typeIs PyProof.Rows.slot_tuple_getitem
    (wpAny_call_entry PyProof.Rows.slot_tuple_getitem ht.typeIs entry_tuple_getitem ?_ (args_tuple_getitem _ _)))
  show wpAny _ _ (Builtin.Tuple.tupleItemsOf (.ref t) >>= _) _ _ s
  refine wpAny_bind (tupleItemsOf_ ht ?_)
  refine wpAny_bind (wpAny_typeOf hTs ?_)
  rw [if_pos (by decide)]
  refine wpAny_bind (HT.sliceApplied_gen hs pl pu ?_)
  rw [h0, h1]
  show wpAny _ _ (if (((0 : Nat) : Int) == 0 && (1 : Int) == 1 && (items.size - 0) == items.size) = true then _ else _) _ _ s
  rw [if_pos (by simp)]
  refine wpAny_bind (m := Builtin.Tuple.tupleIsExact (.ref t)) (wpAny_bind (wpAny_typeOf ht.typeIs (wpAny_pure ?_)))
  rw [if_pos (by decide)]
  first
    | exact wpAny_bind (wpAny_rule (wpAny_pure ⟨_, rfl, wpAny_pure h⟩))
    | exact wpAny_bind (wpAny_rule (wpAny_bind (wpAny_pure (wpAny_pure ⟨_, rfl, wpAny_pure h⟩))))
    | exact wpAny_bind (wpAny_bind (wpAny_rule (wpAny_pure ⟨_, rfl, wpAny_pure h⟩)))
/-- a slice by values -/
def rSl (K : PySem.W.Frag) : V → Option Int → Option Int → Hp → VK → Prop := fun x lo hi H Q => ∃ G p r, Sub G H ∧ Rk K G H p x ∧ cutF lo hi p = some r ∧ ∀ v G' H', Ext G H G' H' → Rp K G' r v → Q v H'
theorem s_sl : SlR X (rSl X.K) := by
  intro pins s σ H x v vl vu lo hi sl Q I rx hs pl pu h
  obtain ⟨G, p, r, sb, hp, e, k⟩ := h
  cases p with
  | tuple xs =>
    cases (show some (PyData.tuple (cut xs lo hi)) = some r from e)
    obtain ⟨a, vs, rfl, q1, r1⟩ := (show ∃ a vs, x = V.ref a ∧ SqT X.K G a vs ∧ RpL X.K G xs vs from hp)
    by_cases hw : HT.sIx vs.length 0 lo = 0 ∧ HT.sIx vs.length vs.length hi = vs.length
    · cases rx
      obtain ⟨its, rv, ht, hz⟩ := I.tuple (sb.sqT q1)
      have hlen : its.toArray.size = vs.length := by rw [List.size_toArray]; exact rv.length.symm
      refine ⟨"tuple", _, PyProof.Rows.slot_tuple_getitem.lookup, ht.typeIs, getItem_tuple_whole ht hs pl pu (by rw [hlen]; exact hw.1) (by rw [hlen]; exact hw.2) ⟨.ref a, H, I, rfl, k _ G H (.refl sb) ⟨a, vs, rfl, q1, ?_⟩⟩⟩
      have hc : cut xs lo hi = xs := by
        unfold cut
        rw [sIx_eq, sIx_eq, r1.length, hw.1, hw.2, List.drop_zero, Nat.sub_zero, ← r1.length, List.take_length]
      rw [hc]; exact r1
    · refine sl_tup pins s σ H _ v vl vu lo hi sl Q I rx hs pl pu ⟨a, vs, rfl, sb.sqT q1, hw, fun l hf => ?_⟩
      have x1 := Ext.new sb hf (.tup (cutV vs lo hi))
      exact k _ _ _ x1 ⟨l, _, rfl, SqT.of upd_same, (cut_rel lo hi r1).mono x1.gg⟩
  | list xs =>
    cases (show some (PyData.list (cut xs lo hi)) = some r from e)
    obtain ⟨a, vs, rfl, q1, r1⟩ := (show ∃ a vs, x = V.ref a ∧ SqL X.K H a vs ∧ RpL X.K G xs vs from hp)
    refine sl_list pins s σ H _ v vl vu lo hi sl Q I rx hs pl pu ⟨a, vs, rfl, q1, fun l hf => ?_⟩
    have x1 := Ext.new sb hf (.lst (cutV vs lo hi))
    exact k _ _ _ x1 ⟨l, _, rfl, SqL.of upd_same, (cut_rel lo hi r1).mono x1.gg⟩
  | _ => simp at e

/-! ### len, isinstance, tuple, list, int -/
def rC1 (K : PySem.W.Frag) (o : Op1) : List V → Hp → VK → Prop := fun xs H Q => ∃ x, xs = [x] ∧ rOp1 K o x H Q
theorem s_len : CallR X (.builtin "len") (rC1 X.K .len) := by
  intro pins s σ H xs us Q I r h
  obtain ⟨x, rfl, G, p, q, sb, hp, e, k⟩ := h
  cases p with
  | tuple ps =>
    cases (show some (PyData.int ps.length) = some q from e)
    obtain ⟨a, vs, rfl, q1, r1⟩ := (show ∃ a vs, x = V.ref a ∧ SqT X.K G a vs ∧ RpL X.K G ps vs from hp)
    exact call_len_seq pins s σ H _ us Q I r ⟨a, vs, rfl, .inr (sb.sqT q1), k _ G H (.refl sb) (by rw [r1.length]; rfl)⟩
  | list ps =>
    cases (show some (PyData.int ps.length) = some q from e)
    obtain ⟨a, vs, rfl, q1, r1⟩ := (show ∃ a vs, x = V.ref a ∧ SqL X.K H a vs ∧ RpL X.K G ps vs from hp)
    exact call_len_seq pins s σ H _ us Q I r ⟨a, vs, rfl, .inl q1, k _ G H (.refl sb) (by rw [r1.length]; rfl)⟩
  | str z =>
    cases (show some (PyData.int z.length) = some q from e)
    obtain ⟨rfl, so, sl⟩ := (show x = .str z ∧ PyData.strOk z = true ∧ z.length ≤ 16777216 from hp)
    exact call_len_str pins s σ H _ us Q I r ⟨z, rfl, by rw [line_eq]; exact sl, k _ G H (.refl sb) rfl⟩
  | _ => simp at e
theorem s_toTuple : CallR X (.type "tuple") (rC1 X.K .toTuple) := by
  intro pins s σ H xs us Q I r h
  obtain ⟨x, rfl, G, p, q, sb, hp, e, k⟩ := h
  cases p with
  | tuple ps =>
    cases (show some (PyData.tuple ps) = some q from e)
    obtain ⟨a, vs, rfl, q1, r1⟩ := (show ∃ a vs, x = V.ref a ∧ SqT X.K G a vs ∧ RpL X.K G ps vs from hp)
    exact call_tuple_of pins s σ H _ us Q I r ⟨a, vs, rfl, .inr ⟨sb.sqT q1, k _ G H (.refl sb) ⟨a, vs, rfl, q1, r1⟩⟩⟩
  | list ps =>
    cases (show some (PyData.tuple ps) = some q from e)
    obtain ⟨a, vs, rfl, q1, r1⟩ := (show ∃ a vs, x = V.ref a ∧ SqL X.K H a vs ∧ RpL X.K G ps vs from hp)
    refine call_tuple_of pins s σ H _ us Q I r ⟨a, vs, rfl, .inl ⟨q1, fun l hf => ?_⟩⟩
    have x1 := Ext.new sb hf (.tup vs)
    exact k _ _ _ x1 ⟨l, vs, rfl, SqT.of upd_same, r1.mono x1.gg⟩
  | _ => simp at e
theorem s_toList : CallR X (.type "list") (rC1 X.K .toList) := by
  intro pins s σ H xs us Q I r h
  obtain ⟨x, rfl, G, p, q, sb, hp, e, k⟩ := h
  cases p with
  | tuple ps =>
    cases (show some (PyData.list ps) = some q from e)
    obtain ⟨a, vs, rfl, q1, r1⟩ := (show ∃ a vs, x = V.ref a ∧ SqT X.K G a vs ∧ RpL X.K G ps vs from hp)
    refine call_list_of pins s σ H _ us Q I r ⟨a, vs, rfl, .inr (sb.sqT q1), fun l hf => ?_⟩
    have x1 := Ext.new sb hf (.lst vs)
    exact k _ _ _ x1 ⟨l, vs, rfl, SqL.of upd_same, r1.mono x1.gg⟩
  | list ps =>
    cases (show some (PyData.list ps) = some q from e)
    obtain ⟨a, vs, rfl, q1, r1⟩ := (show ∃ a vs, x = V.ref a ∧ SqL X.K H a vs ∧ RpL X.K G ps vs from hp)
    refine call_list_of pins s σ H _ us Q I r ⟨a, vs, rfl, .inl q1, fun l hf => ?_⟩
    have x1 := Ext.new sb hf (.lst vs)
    exact k _ _ _ x1 ⟨l, vs, rfl, SqL.of upd_same, r1.mono x1.gg⟩
  | _ => simp at e
theorem s_toInt : CallR X (.type "int") (rC1 X.K .toInt) := by
  intro pins s σ H xs us Q I r h
  obtain ⟨x, rfl, G, p, q, sb, hp, e, k⟩ := h
  cases p with
  | int i =>
    cases (show some (PyData.int i) = some q from e)
    cases (show x = .int i from hp)
    exact call_int1 pins s σ H _ us Q I r (.inl ⟨i, rfl, k _ G H (.refl sb) rfl⟩)
  | bool b =>
    cases (show some (PyData.int (if b then 1 else 0)) = some q from e)
    cases (show x = .bl b from hp)
    exact call_int1 pins s σ H _ us Q I r (.inr ⟨b, rfl, k _ G H (.refl sb) rfl⟩)
  | _ => simp at e
/-- isinstance(x, T), T a built-in type -/
def rIsi (K : PySem.W.Frag) (o : Op1) (T : String) : List V → Hp → VK → Prop := fun xs H Q => ∃ x, xs = [x, .ty T] ∧ rOp1 K o x H Q
theorem isi_ok {o : Op1} {T : String} (hn : ∀ b, opF1 o .none = some (.bool b) → PySem.W.kitOne X.K (.type "NoneType") (.type T) = some b) (hb : ∀ c b, opF1 o (.bool c) = some (.bool b) → PySem.W.kitOne X.K (.type "bool") (.type T) = some b)
    (hi : ∀ c b, opF1 o (.int c) = some (.bool b) → PySem.W.kitOne X.K (.type "int") (.type T) = some b) (hs : ∀ c b, opF1 o (.str c) = some (.bool b) → PySem.W.kitOne X.K (.type "str") (.type T) = some b)
    (hl : ∀ c b, opF1 o (.list c) = some (.bool b) → PySem.W.kitOne X.K (.type "list") (.type T) = some b) (ht : ∀ c b, opF1 o (.tuple c) = some (.bool b) → PySem.W.kitOne X.K (.type "tuple") (.type T) = some b)
    (hbool : ∀ p r, opF1 o p = some r → ∃ b, r = .bool b) : CallR X (.builtin "isinstance") (rIsi X.K o T) := by
  intro pins s σ H xs us Q I r h
  obtain ⟨x, rfl, G, p, q, sb, hp, e, k⟩ := h
  obtain ⟨u, w', rfl, rx, ry⟩ := vals2 r
  cases (show w' = Value.type T from ry)
  obtain ⟨b, rfl⟩ := hbool p q e
  have fin : ∀ tk, EP X pins σ Q (.bool b) { s with toks := tk } := fun tk => ⟨.bl b, H, I.tok tk, rfl, k _ G H (.refl sb) rfl⟩
  cases p with
  | none => cases (show x = .non from hp); cases (show u = Value.none from rx); exact PySem.W.kia_one PySem.W.kitx_none I.kIn True.intro (hn b e) (fun z => nomatch z) fin
  | bool c => cases (show x = .bl c from hp); cases (show u = Value.bool c from rx); exact PySem.W.kia_one PySem.W.kitx_bool I.kIn True.intro (hb c b e) (fun z => nomatch z) fin
  | int c => cases (show x = .int c from hp); obtain ⟨t, rfl⟩ := (show ∃ t, u = Value.int c t from rx); exact PySem.W.kia_one PySem.W.kitx_int I.kIn True.intro (hi c b e) (fun z => nomatch z) fin
  | str c =>
    obtain ⟨rfl, _⟩ := (show x = .str c ∧ _ from hp)
    obtain ⟨t, rfl⟩ := (show ∃ t, u = Value.str c t from rx); exact PySem.W.kia_one PySem.W.kitx_str I.kIn True.intro (hs c b e) (fun z => nomatch z) fin
  | list c =>
    obtain ⟨a, vs, rfl, q1, r1⟩ := (show ∃ a vs, x = V.ref a ∧ SqL X.K H a vs ∧ RpL X.K G c vs from hp)
    cases (show u = Value.ref a from rx)
    obtain ⟨its, _, ⟨o', n, h1, h2, _⟩, _⟩ := I.list q1
    exact PySem.W.kia_one PySem.W.kitx_list I.kIn ⟨o', h1, h2⟩ (hl c b e) (fun z => nomatch z) fin
  | tuple c =>
    obtain ⟨a, vs, rfl, q1, r1⟩ := (show ∃ a vs, x = V.ref a ∧ SqT X.K G a vs ∧ RpL X.K G c vs from hp)
    cases (show u = Value.ref a from rx)
    obtain ⟨its, _, ⟨o', h1, h2, _⟩, _⟩ := I.tuple (sb.sqT q1)
    exact PySem.W.kia_one PySem.W.kitx_tuple I.kIn ⟨o', h1, h2⟩ (ht c b e) (fun z => nomatch z) fin
  | dict kvs => exact (show False from hp).elim
end
end DD
set_option Elab.async false
set_option linter.all false
set_option maxRecDepth 100000
namespace DD
open PySem PySem.Spec PyProof.Rows L2

abbrev CF := Nat → List PV → Option PV
def isPeek : E → Bool
  | .peek _ => true
  | _ => false
/-- how the value of ie lies in the heap -/
def RS (K : PySem.W.Frag) (ie : E) (G H : Hp) (p : PV) (v : V) : Prop := if isPeek ie = true then Rk K G H p v else Rp K G p v
theorem RS.rk {K : PySem.W.Frag} {ie : E} {G H : Hp} {p : PV} {v : V} (s : Sub G H) (h : RS K ie G H p v) : Rk K G H p v := by
  unfold RS at h
  split at h
  · exact h
  · exact h.rk s
theorem RS.rp {K : PySem.W.Frag} {ie : E} {G H : Hp} {p : PV} {v : V} (hp : isPeek ie = false) (h : RS K ie G H p v) : Rp K G p v := by
  unfold RS at h
  rw [hp] at h
  exact h
theorem RS.of {K : PySem.W.Frag} {ie : E} {G H : Hp} {p : PV} {v : V} (hp : isPeek ie = false) (h : Rp K G p v) : RS K ie G H p v := by
  unfold RS
  rw [hp]
  exact h

/-- an expression's reading by the small language -/
def tE (cf : CF) (K : PySem.W.Frag) (ie : E) : TE := fun σ H Q => ∃ G ρ p, SR K G H σ ρ ∧ evE cf ie ρ = some p ∧ ∀ v G' H', Ext G H G' H' → RS K ie G' H' p v → Q v H'
def tT (cf : CF) (K : PySem.W.Frag) (ie : E) : TT := fun σ H Q => ∃ G ρ p b, SR K G H σ ρ ∧ evE cf ie ρ = some p ∧ truthF p = some b ∧ ∀ G' H', Ext G H G' H' → Q b H'
def tA (cf : CF) (K : PySem.W.Frag) (ie : E) : TA := fun σ H Q => ∃ G ρ ps, SR K G H σ ρ ∧ evE cf ie ρ = some (.tuple ps) ∧ ∀ vs G' H', Ext G H G' H' → RpL K G' ps vs → Q vs H'
structure Snd (X : Cx) (cf : CF) (ie : E) (e : Expr) : Prop where
  pe : PE X e (tE cf X.K ie)
  pt : PT X e (tT cf X.K ie)

section
variable {X : Cx} {cf : CF}
theorem _root_.L2.PE.weak {e : Expr} {t t' : TE} (h : PE X e t) (w : ∀ σ H Q, t' σ H Q → t σ H Q) : PE X e t' := fun pins s σ H Q I q => h pins s σ H Q I (w σ H Q q)
theorem _root_.L2.PT.weak {e : Expr} {t t' : TT} (h : PT X e t) (w : ∀ σ H Q, t' σ H Q → t σ H Q) : PT X e t' := fun pins s σ H Q I q => h pins s σ H Q I (w σ H Q q)
theorem _root_.L2.PW.weak {e : Expr} {t t' : TT} (h : PW X e t) (w : ∀ σ H Q, t' σ H Q → t σ H Q) : PW X e t' := fun wh pins s σ H Q I q => h wh pins s σ H Q I (w σ H Q q)
theorem _root_.L2.PA.weak {es : List Expr} {t t' : TA} (h : PA X es t) (w : ∀ σ H Q, t' σ H Q → t σ H Q) : PA X es t' := fun pos pins s σ H Q I q => h pos pins s σ H Q I (w σ H Q q)

/-! ### truth -/
theorem truV {K : PySem.W.Frag} {G H : Hp} {p : PV} {v : V} {b : Bool} (sb : Sub G H) (h : Rk K G H p v) (e : truthF p = some b) : TruV K v H b := by
  cases p with
  | none => cases (show v = .non from h); cases (show some false = some b from e); exact (rfl : false = false)
  | bool c => cases (show v = .bl c from h); have e' : c = b := Option.some.inj e; subst e'; exact (rfl : c = c)
  | int i => cases (show v = .int i from h); cases (show some (i != 0) = some b from e); exact (rfl : (i != 0) = (i != 0))
  | str x =>
    obtain ⟨rfl, _, hl⟩ := (show v = .str x ∧ PyData.strOk x = true ∧ x.length ≤ 16777216 from h)
    cases (show some (x.length != 0) = some b from e)
    refine (⟨by rw [line_eq]; exact hl, ?_⟩ : x.length ≤ sizeLine ∧ (x.length != 0) = ((x.length : Int) != 0))
    cases hx : x.length with
    | zero => rfl
    | succ n => simp; omega
  | list ps =>
    obtain ⟨a, vs, rfl, q, r⟩ := (show ∃ a vs, v = V.ref a ∧ SqL K H a vs ∧ RpL K G ps vs from h)
    cases (show some (!ps.isEmpty) = some b from e)
    have hl := r.length
    refine Or.inl ⟨vs, q, ?_⟩
    cases ps <;> cases vs <;> simp_all
  | tuple ps =>
    obtain ⟨a, vs, rfl, q, r⟩ := (show ∃ a vs, v = V.ref a ∧ SqT K G a vs ∧ RpL K G ps vs from h)
    cases (show some (!ps.isEmpty) = some b from e)
    have hl := r.length
    refine Or.inr (Or.inl ⟨vs, sb.sqT q, ?_⟩)
    cases ps <;> cases vs <;> simp_all
  | dict _ => cases (show none = some b from e)
/-- a test that is its value's truth -/
theorem Snd.plain {ie : E} {e : Expr} (h : PE X e (tE cf X.K ie)) (he : ∀ whole, isTrue e X.env whole = (do let v ← whole; standAt e.pos; holding [v] (truthy v))) : Snd X cf ie e := by
  refine ⟨h, (pt_truth h he).weak fun σ H Q ⟨G, ρ, p, b, S, e1, e2, k⟩ => ?_⟩
  exact ⟨G, ρ, p, S, e1, fun v G' H' x r => ⟨b, truV x.gh (r.rk x.gh) e2, k G' H' x⟩⟩

/-! ### names and constants -/
theorem snd_var {i : Nat} {x : Str} {pos : Pos} (hN : X.N[i]? = some x) (hv : Vis X.env.scope x) (hd : (x == ("__debug__" : Str)) = false) (hcd : (x == ("__classdict__" : Str)) = false) : Snd X cf (.var i) (.Name x pos) := by
  refine .plain ((pe_var hN hv hd hcd).weak fun σ H Q ⟨G, ρ, p, S, e, k⟩ => ?_) (fun _ => rfl)
  obtain ⟨sl, e1, e2⟩ := bnd_eq.mp (show bnd ρ[i]? Sl.get = some p from e)
  cases sl with
  | val q =>
    cases (show some q = some p from e2)
    obtain ⟨o, eo, v, rfl, r⟩ := S.at e1
    exact ⟨v, eo, k v G H (.refl S.sub) (.of rfl r)⟩
  | un => cases (show none = some p from e2)
  | own ps => cases (show none = some p from e2)
theorem snd_peek {i : Nat} {x : Str} {pos : Pos} (hN : X.N[i]? = some x) (hv : Vis X.env.scope x) (hd : (x == ("__debug__" : Str)) = false) (hcd : (x == ("__classdict__" : Str)) = false) : Snd X cf (.peek i) (.Name x pos) := by
  refine .plain ((pe_var hN hv hd hcd).weak fun σ H Q ⟨G, ρ, p, S, e, k⟩ => ?_) (fun _ => rfl)
  obtain ⟨sl, e1, e2⟩ := bnd_eq.mp (show bnd ρ[i]? Sl.look = some p from e)
  cases sl with
  | val q =>
    have e3 : q = p := Option.some.inj e2
    subst e3
    obtain ⟨o, eo, v, rfl, r⟩ := S.at e1
    exact ⟨v, eo, k v G H (.refl S.sub) (show Rk X.K G H q v from r.rk S.sub)⟩
  | own ps =>
    cases (show some (PyData.list ps) = some p from e2)
    obtain ⟨o, eo, a, vs, rfl, h1, h2, r⟩ := S.at e1
    exact ⟨_, eo, k _ G H (.refl S.sub) (show Rk X.K G H (.list ps) (.ref a) from ⟨a, vs, rfl, SqL.of h1, r⟩)⟩
  | un => cases (show none = some p from e2)
theorem pe_con {e : Expr} {p : PV} {v : V} (h : PE X e (tC v)) (r : ∀ G, Rp X.K G p v) : PE X e (tE cf X.K (.con p)) :=
  h.weak fun σ H Q ⟨G, ρ, q, S, e, k⟩ => by
    cases (show some p = some q from e)
    exact k v G H (.refl S.sub) (.of rfl (r G))

/-! ### argument lists, tuples, lists -/
def plainE : Expr → Bool
  | .Starred .. => false
  | _ => true
theorem star_of {e : Expr} (h : plainE e = true) (es : List Expr) (env : PySem.Env) : starEach (e :: es) env = (false, eval e env) :: starEach es env := by
  cases e <;> first | rfl | (exact absurd (show false = true from h) Bool.false_ne_true)
theorem snd_nil : PA X [] (tA cf X.K .nil) := pa_nil.weak fun σ H Q ⟨G, ρ, ps, S, e, k⟩ => by
  cases (show some (PyData.tuple []) = some (.tuple ps) from e)
  exact k [] G H (.refl S.sub) .nil
theorem snd_cons {ih it : E} {e : Expr} {es : List Expr} (h : PE X e (tE cf X.K ih)) (hr : PA X es (tA cf X.K it)) (hk : isPeek ih = false) (hs : plainE e = true) : PA X (e :: es) (tA cf X.K (.cons ih it)) :=
  (pa_cons h hr (star_of hs _ _)).weak fun σ H Q ⟨G, ρ, ps, S, e, k⟩ => by
    obtain ⟨x, e1, e2⟩ := bnd_eq.mp (show bnd (evE cf ih ρ) (fun x => bnd (evE cf it ρ) (consF x)) = some (.tuple ps) from e)
    obtain ⟨r, e3, e4⟩ := bnd_eq.mp e2
    cases r with
    | tuple xs =>
      cases (show some (PyData.tuple (x :: xs)) = some (.tuple ps) from e4)
      exact ⟨G, ρ, x, S, e1, fun v G1 H1 x1 r1 => ⟨G1, ρ, xs, S.ext x1, e3, fun vs G2 H2 x2 r2 => k (v :: vs) G2 H2 (x1.trans x2) (.cons ((r1.rp hk).mono x2.gg) r2)⟩⟩
    | _ => cases (show none = some (PyData.tuple ps) from e4)
/-- a chain of conses -/
def argN : E → Option Nat
  | .nil => some 0
  | .cons _ t => (argN t).map (· + 1)
  | _ => none
theorem args_len : ∀ (a : E) (n : Nat) (ρ : Env) (p : PV), argN a = some n → evE cf a ρ = some p → ∃ ps, p = .tuple ps ∧ ps.length = n
  | .nil, n, ρ, p, hn, e => by
    cases (show some 0 = some n from hn)
    cases (show some (PyData.tuple []) = some p from e)
    exact ⟨[], rfl, rfl⟩
  | .cons h t, n, ρ, p, hn, e => by
    obtain ⟨x, e1, e2⟩ := bnd_eq.mp (show bnd (evE cf h ρ) (fun x => bnd (evE cf t ρ) (consF x)) = some p from e)
    obtain ⟨r, e3, e4⟩ := bnd_eq.mp e2
    cases hm : argN t with
    | none => rw [argN, hm] at hn; cases hn
    | some m =>
      rw [argN, hm] at hn
      cases hn
      obtain ⟨xs, rfl, hl⟩ := args_len t m ρ r hm e3
      cases (show some (PyData.tuple (x :: xs)) = some p from e4)
      exact ⟨_, rfl, by simp [hl]⟩
  | .var _, _, _, _, hn, _ => by cases hn
  | .peek _, _, _, _, hn, _ => by cases hn
  | .con _, _, _, _, hn, _ => by cases hn
  | .tup _, _, _, _, hn, _ => by cases hn
  | .lst _, _, _, _, hn, _ => by cases hn
  | .op1 _ _, _, _, _, hn, _ => by cases hn
  | .op2 _ _ _, _, _, _, hn, _ => by cases hn
  | .sl _ _ _, _, _, _, hn, _ => by cases hn
  | .call _ _, _, _, _, hn, _ => by cases hn
  | .and _ _, _, _, _, hn, _ => by cases hn
  | .or _ _, _, _, _, hn, _ => by cases hn
  | .not _, _, _, _, hn, _ => by cases hn
  | .ite _ _ _, _, _, _, hn, _ => by cases hn
  | .chain _ _ _ _ _, _, _, _, hn, _ => by cases hn
  | .comp _ _ _ _ _, _, _, _, hn, _ => by cases hn
  | .rng _, _, _, _, hn, _ => by cases hn
  | .rng2 _ _, _, _, _, hn, _ => by cases hn
theorem snd_tup {a : E} {es : List Expr} {k : Nat} {pos : Pos} {n : Nat} (h : PA X es (tA cf X.K a)) (hn : argN a = some n) (hs : n ≤ 1000) : Snd X cf (.tup a) (.Tuple es k pos) := by
  refine .plain ((pe_tup h).weak fun σ H Q ⟨G, ρ, p, S, e, k⟩ => ?_) (fun _ => rfl)
  obtain ⟨ps, rfl, hl⟩ := args_len a n ρ p hn e
  refine ⟨G, ρ, ps, S, e, fun vs G1 H1 x1 r1 => ⟨?_, fun l hf => ?_⟩⟩
  · have := r1.length; rw [line_eq]; omega
  · have x2 := Ext.new x1.gh hf (.tup vs)
    exact k _ _ _ (x1.trans x2) (.of rfl ⟨l, vs, rfl, SqT.of upd_same, r1.mono x2.gg⟩)
theorem snd_lst {a : E} {es : List Expr} {pos : Pos} {n : Nat} (h : PA X es (tA cf X.K a)) (hn : argN a = some n) (hs : n ≤ 1000) : Snd X cf (.lst a) (.List es pos) := by
  refine .plain ((pe_lst h).weak fun σ H Q ⟨G, ρ, p, S, e, k⟩ => ?_) (fun _ => rfl)
  obtain ⟨r, e1, e2⟩ := bnd_eq.mp (show bnd (evE cf a ρ) lstF = some p from e)
  obtain ⟨ps, rfl, hl⟩ := args_len a n ρ r hn e1
  cases (show some (PyData.list ps) = some p from e2)
  refine ⟨G, ρ, ps, S, e1, fun vs G1 H1 x1 r1 => ⟨?_, fun l hf => ?_⟩⟩
  · have := r1.length; rw [line_eq]; omega
  · have x2 := Ext.new x1.gh hf (.lst vs)
    exact k _ _ _ (x1.trans x2) (.of rfl ⟨l, vs, rfl, SqL.of upd_same, r1.mono x2.gg⟩)

/-! ### operations -/
theorem op2_w {o : Op2} {a b : E} : ∀ σ H Q, tE cf X.K (.op2 o a b) σ H Q → tOp (rOp2 X.K o) (tE cf X.K a) (tE cf X.K b) σ H Q := fun σ H Q ⟨G, ρ, p, S, e, k⟩ => by
  obtain ⟨x, e1, e2⟩ := bnd_eq.mp (show bnd (evE cf a ρ) (fun x => bnd (evE cf b ρ) fun y => opF2 o x y) = some p from e)
  obtain ⟨y, e3, e4⟩ := bnd_eq.mp e2
  exact ⟨G, ρ, x, S, e1, fun v G1 H1 x1 r1 => ⟨G1, ρ, y, S.ext x1, e3, fun w G2 H2 x2 r2 =>
    ⟨G2, x, y, p, x2.gh, (r1.rk x1.gh).ext x2, r2.rk x2.gh, e4, fun u G3 H3 x3 r3 => k u G3 H3 (x1.trans (x2.trans x3)) (.of rfl r3)⟩⟩⟩
theorem snd_bin {op : Operator} {o : Op2} {ia ib : E} {a b : Expr} {pos : Pos} (ho : OpR X (binaryOp op) (rOp2 X.K o)) (ha : PE X a (tE cf X.K ia)) (hb : PE X b (tE cf X.K ib)) : Snd X cf (.op2 o ia ib) (.BinOp a op b pos) :=
  .plain ((pe_op ho ha hb).weak op2_w) (fun _ => rfl)
theorem rOp2_bool {K : PySem.W.Frag} {o : Op2} (ho : ∀ p q r, opF2 o p q = some r → ∃ b, r = .bool b) {x y : V} {H : Hp} {Q : VK} (h : rOp2 K o x y H Q) : rOp2 K o x y H fun v H' => ∃ b, v = .bl b ∧ Q v H' := by
  obtain ⟨G, p, q, r, sb, hp, hq, e, k⟩ := h
  obtain ⟨b, rfl⟩ := ho p q r e
  exact ⟨G, p, q, .bool b, sb, hp, hq, e, fun v G' H' x rv => ⟨b, rv, k v G' H' x rv⟩⟩
theorem snd_cmp {op : CmpOp} {o : Op2} {ia ib : E} {a b : Expr} {pos : Pos} (ho : OpR X (compareOp op) (rOp2 X.K o)) (hb2 : ∀ p q r, opF2 o p q = some r → ∃ b, r = .bool b) (ha : PE X a (tE cf X.K ia)) (hb : PE X b (tE cf X.K ib))
    (hm : behindInMarks op b = false) : Snd X cf (.op2 o ia ib) (.Compare a [op] [b] pos) := by
  refine ⟨(pe_cmpR ho ha hb hm).weak op2_w, (pt_cmpR ho ha hb hm).weak fun σ H Q ⟨G, ρ, p, t, S, e, et, k⟩ => ?_⟩
  refine op2_w σ H (fun x H' => ∃ c, x = .bl c ∧ Q c H') ⟨G, ρ, p, S, e, fun v G' H' x r => ?_⟩
  obtain ⟨x', e1, e2⟩ := bnd_eq.mp (show bnd (evE cf ia ρ) (fun x => bnd (evE cf ib ρ) fun y => opF2 o x y) = some p from e)
  obtain ⟨y', e3, e4⟩ := bnd_eq.mp e2
  obtain ⟨b', rfl⟩ := hb2 _ _ _ e4
  have et' : b' = t := Option.some.inj et
  subst et'
  have rv : Rp X.K G' (.bool b') v := r.rp rfl
  cases (show v = .bl b' from rv)
  exact ⟨b', rfl, k G' H' x⟩
end
end DD
set_option Elab.async false
set_option linter.all false
set_option maxRecDepth 100000
namespace DD
open PySem PySem.Spec PyProof.Rows L2

/-! ### the cells that a comprehension's block takes along -/
def clOf (cells : List (Str × Addr)) : List (Str × NameKind) → List (Str × Addr) → List (Str × Addr)
  | [], acc => acc
  | (n, k) :: r, acc => if k == NameKind.free then clOf cells r ((n, (cells.lookup n).getD 0) :: acc) else clOf cells r acc
theorem closure_of {scope : Scope} {env : PySem.Env} (h : ∀ x ∈ scope.names, x.2 = .free → ∃ c, env.cells.lookup x.1 = some c) : closureFor scope env = pure (clOf env.cells scope.names []) := by
  unfold closureFor
  have go : ∀ (names : List (Str × NameKind)) (acc : List (Str × Addr)), (∀ x ∈ names, x.2 = .free → ∃ c, env.cells.lookup x.1 = some c) →
      (forIn names acc fun x cs => do
        if (x.2 == NameKind.free) = true then do
          let a ← cellOf env x.1
          pure (ForInStep.yield ((x.1, a) :: cs))
        else pure (ForInStep.yield cs) : Sem (List (Str × Addr))) = pure (clOf env.cells names acc) := by
    intro names
    induction names with
    | nil => intro acc _; rfl
    | cons x r ih =>
      intro acc hn
      obtain ⟨n, k⟩ := x
      rw [List.forIn_cons]
      by_cases hk : k = .free
      · subst hk
        obtain ⟨c, ec⟩ := hn (n, .free) List.mem_cons_self rfl
        have e1 : cellOf env n = pure c := by unfold cellOf; rw [ec]
        simp only [beq_self_eq_true, if_true, e1, pure_bind]
        rw [clOf, if_pos (by simp), ec]
        exact ih _ fun y hy => hn y (List.mem_cons_of_mem _ hy)
      · have hb : (k == NameKind.free) = false := by simpa using hk
        simp only [hb, Bool.false_eq_true, if_false, pure_bind]
        rw [clOf, if_neg (by simp [hk])]
        exact ih _ fun y hy => hn y (List.mem_cons_of_mem _ hy)
  have := go scope.names [] h
  simpa using this
theorem clOf_sub (cells : List (Str × Addr)) : ∀ (names : List (Str × NameKind)) (acc : List (Str × Addr)), (∀ x ∈ names, x.2 = .free → ∃ c, cells.lookup x.1 = some c) → (∀ x c, (x, c) ∈ acc → cells.lookup x = some c) →
    ∀ x c, (x, c) ∈ clOf cells names acc → cells.lookup x = some c
  | [], acc, _, ha => ha
  | (n, k) :: r, acc, hn, ha => by
    intro x c h
    rw [clOf] at h
    split at h
    · rename_i hk
      obtain ⟨d, ed⟩ := hn (n, k) List.mem_cons_self (by simpa using hk)
      refine clOf_sub cells r _ (fun y hy => hn y (List.mem_cons_of_mem _ hy)) (fun y e hm => ?_) x c h
      rcases List.mem_cons.mp hm with z | z
      · cases z
        rw [ed]; rfl
      · exact ha y e z
    · exact clOf_sub cells r acc (fun y hy => hn y (List.mem_cons_of_mem _ hy)) ha x c h
theorem clOf_mem (cells : List (Str × Addr)) : ∀ (names : List (Str × NameKind)) (acc : List (Str × Addr)) (x : Str), ((∃ c, (x, c) ∈ acc) ∨ (x, NameKind.free) ∈ names) → ∃ c, (x, c) ∈ clOf cells names acc
  | [], acc, x, h => by
    rcases h with h | h
    · exact h
    · cases h
  | (n, k) :: r, acc, x, h => by
    rw [clOf]
    split
    · rename_i hk
      have hk' : k = .free := by simpa using hk
      subst hk'
      refine clOf_mem cells r _ x ?_
      rcases h with ⟨c, h⟩ | h
      · exact .inl ⟨c, List.mem_cons_of_mem _ h⟩
      · rcases List.mem_cons.mp h with z | z
        · cases z
          exact .inl ⟨_, List.mem_cons_self⟩
        · exact .inr z
    · rename_i hk
      refine clOf_mem cells r acc x ?_
      rcases h with h | h
      · exact .inl h
      · rcases List.mem_cons.mp h with z | z
        · cases z
          exact absurd (by simp) hk
        · exact .inr z
theorem lookup_of_mem {α : Type} {l : List (Str × α)} {x : Str} {c : α} (h : (x, c) ∈ l) : ∃ d, l.lookup x = some d := by
  induction l with
  | nil => cases h
  | cons y r ih =>
    obtain ⟨n, d⟩ := y
    rw [List.lookup_cons]
    cases e : x == n with
    | true => exact ⟨d, rfl⟩
    | false =>
      rcases List.mem_cons.mp h with z | z
      · cases z; simp at e
      · exact ih z

/-! ### a block's turn, whatever its target -/
theorem compLoop_gen {prog : Program} {w : World} {A : Around} {R : Result → Shared → Prop} {s : Shared} {elt target iter : Expr} {ifs : List Expr} {scope : Scope} {pos : Pos} {it acc : Value} {env : PySem.Env} (I : Nat → Shared → Prop)
    (turn : ∀ n s, I n s → wpAny (model prog w) A (pyNext it) (fun r s₁ => match r with
      | none => R (.ok .next) s₁
      | some v => wpAny (model prog w) A (letOwnedTupleGo target it v) (fun _ s₁' => wpAny (model prog w) A (assign target env v) (fun _ s₂ =>
          wpAny (model prog w) A (forIn ifs true fun c r => if r = true then do let ok ← isTrue c env (eval c env); pure (ForInStep.yield ok) else pure (ForInStep.yield r)) (fun ok s₃ =>
            if ok = true then wpAny (model prog w) A (eval elt env) (fun x s₄ =>
              wpAny (model prog w) A (call (.builtin "list.append") [acc, x]) (fun _ s₅ => ∃ m, m < n ∧ I m s₅) (fun _ _ => False) s₄) (fun _ _ => False) s₃
            else ∃ m, m < n ∧ I m s₃) (fun _ _ => False) s₂) (fun _ _ => False) s₁') (fun _ _ => False) s₁) (fun _ _ => False) s)
    (n : Nat) (h : I n s) : codeAny (model prog w) A (.compLoop (.ListComp elt [⟨target, iter, ifs, 0⟩] scope pos) 0 it acc env) R s := by
  refine codeAny_loop rfl I (fun n s hI => ?_) n h
  show wpAny _ A ((compTurn (.ListComp elt [⟨target, iter, ifs, 0⟩] scope pos) 0 it acc env).onRaise (fun x => do noteFrame x env; theTreesLotGoes x)) _ _ s
  refine wpAny_noted ?_
  rw [compTurn_list]
  refine wpAny_bind (wpAny_standAt (wpAny_bind (wpAny_mono (turn n s hI) (fun r s₁ h₁ => ?_) fun _ _ h' => h'.elim)))
  cases r with
  | none => exact wpAny_pure h₁
  | some v =>
    refine wpAny_bind (wpAny_mono h₁ (fun _ s₁' h₁' => ?_) fun _ _ h' => h'.elim)
    refine wpAny_bind (wpAny_mono h₁' (fun _ s₂ h₂ => wpAny_bind (wpAny_mono h₂ (fun ok s₃ h₃ => ?_) fun _ _ h' => h'.elim)) fun _ _ h' => h'.elim)
    cases ok with
    | false => exact wpAny_pure ⟨rfl, h₃⟩
    | true =>
      exact wpAny_bind (wpAny_bind (wpAny_mono h₃ (fun x s₄ h₄ => wpAny_bind (wpAny_mono h₄ (fun _ s₅ h₅ => wpAny_pure (wpAny_pure ⟨rfl, h₅⟩)) fun _ _ h' => h'.elim)) fun _ _ h' => h'.elim))

/-! ### the block's context -/
def cxC (X : Cx) (N' : List Str) (scope : Scope) (cl : List (Str × Addr)) (C : Addr) (s : Shared) (H : Hp) (fp : List Addr) : Cx where
  prog := X.prog
  w := X.w
  K := X.K
  mg := X.mg
  base := X.base
  A := X.A
  N := N'
  s₀ := s
  H₀ := H
  env := compEnvC scope cl C X.env
  outer := X.stack
  stack := X.stack
  ex := fp
  fn := fun _ => false
  calm := true
  pn := []
  xe := fun _ _ => False
/-- what the proof of a block may use of its context -/
structure Blk (X : Cx) (N' : List Str) (scope : Scope) (X' : Cx) : Prop where
  prog : X'.prog = X.prog
  w : X'.w = X.w
  K : X'.K = X.K
  mg : X'.mg = X.mg
  base : X'.base = X.base
  A : X'.A = X.A
  N : X'.N = N'
  sc : X'.env.scope = relabel scope X.env
  calm : X'.calm = true
  xe : X'.xe = fun _ _ => False
/-- how the names of the scope stand around -/
structure CScope (X : Cx) (own : List Str) (caps : List Nat) (scope : Scope) : Prop where
  kind : scope.kind = .function
  nocell : ∀ x ∈ scope.names, x.2 ≠ .cell
  locals : ∀ x ∈ scope.names, x.2 = .local → scope.names.lookup x.1 = some .local
  frees : ∀ x ∈ scope.names, x.2 = .free → X.env.kindOf x.1 = some .cell ∨ X.env.kindOf x.1 = some .free
  caps : ∀ j ∈ caps, ∃ y, X.N[j]? = some y ∧ Vis X.env.scope y ∧ scope.names.lookup y = some .free
def namesC (X : Cx) (own : List Str) (caps : List Nat) : List Str := own ++ caps.map fun j => X.N.getD j ""
def slotsC (own : List Str) (caps : List Nat) (σ : St) : St := List.replicate own.length none ++ caps.map fun j => σ.getD j none

theorem lookup_map {α β : Type} (f : Str × α → Str × β) (hf : ∀ n k, (f (n, k)).1 = n) : ∀ (l : List (Str × α)) (y : Str), (l.map f).lookup y = (l.lookup y).map fun k => (f (y, k)).2
  | [], _ => rfl
  | (n, k) :: r, y => by
    rw [List.map_cons]
    have e : f (n, k) = (n, (f (n, k)).2) := Prod.ext (hf n k) rfl
    rw [e, List.lookup_cons, List.lookup_cons]
    cases h : y == n with
    | true =>
      have : y = n := by simpa using h
      subst this
      rfl
    | false => exact lookup_map f hf r y
theorem relabel_lookup (scope : Scope) (env : PySem.Env) (y : Str) : (relabel scope env).names.lookup y = (scope.names.lookup y).map fun k => if (k == .free && env.scope.kind == .function && env.kindOf y == some .cell) = true then NameKind.cell else k := by
  have := lookup_map (fun (x : Str × NameKind) => match x with | (n, k) => if (k == .free && env.scope.kind == .function && env.kindOf n == some .cell) then (n, NameKind.cell) else (n, k)) (fun n k => by dsimp only; split <;> rfl) scope.names y
  refine this.trans ?_
  congr 1
  funext k
  dsimp only
  split <;> rfl
theorem relabel_free {scope : Scope} {env : PySem.Env} {y : Str} (h : scope.names.lookup y = some .free) : (relabel scope env).names.lookup y = some .cell ∨ (relabel scope env).names.lookup y = some .free := by
  rw [relabel_lookup, h]
  simp only [Option.map_some]
  split
  · exact .inl rfl
  · exact .inr rfl
theorem relabel_local {scope : Scope} {env : PySem.Env} {y : Str} (h : scope.names.lookup y = some .local) : (relabel scope env).names.lookup y = some .local := by
  rw [relabel_lookup, h]; rfl
theorem relabel_glob {scope : Scope} {env : PySem.Env} {y : Str} (h : scope.names.lookup y = some .globalImplicit) : (relabel scope env).names.lookup y = some .globalImplicit := by
  rw [relabel_lookup, h]; rfl
theorem relabel_of {scope : Scope} {env : PySem.Env} {y : Str} (hc : ∀ x ∈ scope.names, x.2 ≠ .cell) (h : (relabel scope env).names.lookup y = some .cell ∨ (relabel scope env).names.lookup y = some .free) : scope.names.lookup y = some .free := by
  rw [relabel_lookup] at h
  cases e : scope.names.lookup y with
  | none => rw [e] at h; simp at h
  | some k =>
    rw [e] at h
    simp only [Option.map_some, Option.some.injEq] at h
    by_cases hk : k = .free
    · rw [hk]
    · have hb : (k == NameKind.free) = false := by simpa using hk
      simp only [hb, Bool.false_and, Bool.false_eq_true, if_false] at h
      rcases h with h | h
      · exact absurd h (hc (y, k) (PySem.mem_of_lookup e))
      · exact absurd h hk

theorem inv_comp {X : Cx} {pins : List (Addr × Obj)} {σ : St} {H : Hp} {s : Shared} {own : List Str} {caps : List Nat} {scope : Scope} {fp : List Addr} (I : Inv X pins σ H s) (S : CScope X own caps scope) (hcalm : X.calm = true)
    (hfp : ∀ b ∈ fp, FpOk X pins H b) (hfo : ∀ b ∈ fp, ∃ o, s.heap.get? b = some o) {h1 : Heap} {t : Nat} {m : Str → Option Value} (hns : h1.Ns s.heap.objs.size m) (hk : ∀ b o, s.heap.get? b = some o → h1.get? b = some o) :
    Inv (cxC X (namesC X own caps) scope (clOf X.env.cells scope.names []) s.heap.objs.size s H fp) [] (slotsC own caps σ) H { s with heap := h1, toks := t } := by
  have hfr : ∀ x ∈ scope.names, x.2 = .free → ∃ c, X.env.cells.lookup x.1 = some c := fun x hx e => I.ok.has x.1 (S.frees x hx e)
  have cls : ∀ x c, (clOf X.env.cells scope.names []).lookup x = some c → X.env.cells.lookup x = some c := fun x c e => clOf_sub X.env.cells scope.names [] hfr (fun _ _ h => by cases h) x c (PySem.mem_of_lookup e)
  have clh : ∀ x, scope.names.lookup x = some .free → ∃ c, (clOf X.env.cells scope.names []).lookup x = some c := fun x e => by
    obtain ⟨c, hc⟩ := clOf_mem X.env.cells scope.names [] x (.inr (PySem.mem_of_lookup e))
    exact lookup_of_mem hc
  refine ⟨⟨I.ok.mod, S.kind, I.ok.glob, I.ok.blt, Nat.le_refl _, fun x y c e1 e2 => I.ok.inj x y c (cls x c e1) (cls y c e2), fun x hx => ?_, fun x c hf _ => ?_, fun _ => I.ok.hd hcalm, I.ok.frames, .inl rfl, fun b hb => ⟨?_, fun x c e => ?_⟩, I.bs,
    Nat.le_trans I.ok.bsz I.sz, fun b o e hb => ?_, fun b hb hs => ?_, I.stack, I.stkFree⟩, rfl, I.bare, Un.kept hk, ⟨m, hns, fun i x v e1 e2 e3 => ?_⟩, fun x c e => ?_, I.hok.fresh (Nat.le_refl _), fun x c e => I.freeC x c (cls x c e), fun p hp => ?_, I.hok.kept hk, ?_⟩
  · exact clh x (relabel_of S.nocell hx)
  · exact absurd (show false = true from hf) Bool.false_ne_true
  · obtain ⟨o, eo⟩ := hfo b hb
    exact Nat.ne_of_lt (Heap.lt_size eo)
  · obtain ⟨_, _, _, _, f5, _⟩ := hfp b hb
    exact f5 x c (cls x c e)
  · obtain ⟨_, _, _, f4, _, _⟩ := hfp b hb
    rcases f4 with z | z
    · exact I.ok.noex b o e z
    · have := Heap.lt_size e
      have := I.ok.bsz
      exact absurd (Nat.lt_of_lt_of_le (Heap.lt_size e) (Nat.le_trans I.ok.bsz z)) (Nat.lt_irrefl _)
  · obtain ⟨_, f2, f3, _, _, _⟩ := hfp b hb
    rcases List.mem_cons.mp (I.stkSub b hs) with z | z
    · exact f2 z
    · exact f3 z
  · have hlen : (List.replicate own.length (none : Option V)).length = own.length := List.length_replicate
    unfold cxC namesC at e1
    dsimp only at e1
    unfold slotsC at e2
    by_cases hi : i < own.length
    · rw [List.getElem?_append_left (by rw [hlen]; exact hi), List.getElem?_replicate, if_pos hi] at e2
      cases e2
    · rw [List.getElem?_append_right (by rw [hlen]; omega), hlen, List.getElem?_map] at e2
      rw [List.getElem?_append_right (by omega), List.getElem?_map] at e1
      cases ec : caps[i - own.length]? with
      | none => rw [ec] at e2; cases e2
      | some j =>
        rw [ec] at e1 e2
        simp only [Option.map_some, Option.some.injEq] at e1 e2
        obtain ⟨y, ey, vy, fy⟩ := S.caps j (List.mem_of_getElem? ec)
        have eyx : y = x := by rw [← e1, List.getD_eq_getElem?_getD, ey]; rfl
        subst eyx
        have eσ : σ[j]? = some (some v) := by
          rw [List.getD_eq_getElem?_getD] at e2
          cases q : σ[j]? with
          | none => rw [q] at e2; cases e2
          | some o => rw [q] at e2; exact congrArg some e2
        obtain ⟨m0, hn0, hl0⟩ := I.loc
        obtain ⟨u, ru, lk⟩ := hl0 j y v ey eσ vy
        refine ⟨u, ru, .inr ⟨?_, ?_⟩⟩
        · exact relabel_free fy
        · have hfk := S.frees (y, .free) (PySem.mem_of_lookup fy) rfl
          obtain ⟨c, hc⟩ := clh y fy
          rcases lk with ⟨k1, _⟩ | ⟨_, d, hd, hcell⟩
          · dsimp only at hfk
            rcases hfk with z | z <;> (rw [k1] at z; cases z)
          · have : c = d := Option.some.inj ((cls y c hc).symm.trans hd)
            subst this
            exact ⟨c, hc, hcell.keeps hk⟩
  · obtain ⟨v, hv⟩ := I.cell x c (cls x c e)
    exact ⟨v, hv.keeps hk⟩
  · exact absurd (show p ∈ ([] : List (Addr × Obj)) from hp) (by simp)
  · unfold slotsC
    show _ = (namesC X own caps).length
    unfold namesC
    simp
end DD
set_option Elab.async false
set_option linter.all false
set_option maxRecDepth 100000
namespace DD
open PySem PySem.Spec PyProof.Rows L2

/-! ### what a loop walks -/
structure Walk (K : PySem.W.Frag) (J : It) (G : Hp) (xs : List PV) : Prop where
  len : xs.length ≤ 16777216
  go : ∀ i H, Sub G H → i < xs.length → J.go i H
  yld : ∀ i H x H', Sub G H → i < xs.length → J.yld i H x H' → H' = H ∧ ∃ p, xs[i]? = some p ∧ Rp K G p x
  stop : ∀ i H, Sub G H → xs.length ≤ i → J.stop i H
theorem walk_list {K : PySem.W.Frag} {G : Hp} {a : Addr} {ps : List PV} {vs : List V} (q : SqL K G a vs) (r : RpL K G ps vs) (hz : vs.length ≤ sizeLine) : Walk K (Itl K a) G ps where
  len := by rw [r.length, ← line_eq]; exact hz
  go := fun i H s hi => ⟨vs, vs[i]'(by rw [← r.length]; exact hi), s.sqL q, List.getElem?_eq_getElem _⟩
  yld := fun i H x H' s hi y => by
    obtain ⟨e, y⟩ := y
    obtain ⟨p, e1, e2⟩ := r.getV (y vs (s.sqL q))
    exact ⟨e, p, e1, e2⟩
  stop := fun i H s hi => ⟨vs, s.sqL q, by rw [← r.length]; exact hi⟩
theorem walk_tup {K : PySem.W.Frag} {G : Hp} {a : Addr} {ps : List PV} {vs : List V} (q : SqT K G a vs) (r : RpL K G ps vs) (hz : vs.length ≤ sizeLine) : Walk K (Itt K a) G ps where
  len := by rw [r.length, ← line_eq]; exact hz
  go := fun i H s hi => ⟨vs, vs[i]'(by rw [← r.length]; exact hi), s.sqT q, List.getElem?_eq_getElem _⟩
  yld := fun i H x H' s hi y => by
    obtain ⟨e, y⟩ := y
    obtain ⟨p, e1, e2⟩ := r.getV (y vs (s.sqT q))
    exact ⟨e, p, e1, e2⟩
  stop := fun i H s hi => ⟨vs, s.sqT q, by rw [← r.length]; exact hi⟩
theorem walk_rng {K : PySem.W.Frag} {G : Hp} (lo : Int) (n : Nat) (hn : n ≤ 16777216) : Walk K (Itr lo n) G ((List.range n).map fun k => .int (lo + (k : Nat))) where
  len := by simpa using hn
  go := fun i H s hi => by
    have : i < n := by simpa using hi
    exact this
  yld := fun i H x H' s hi y => by
    obtain ⟨e, y⟩ := y
    have hi' : i < n := by simpa using hi
    exact ⟨e, .int (lo + (i : Nat)), by simp [hi'], y⟩
  stop := fun i H s hi => by
    have : n ≤ i := by simpa using hi
    exact this
def tI (cf : CF) (K : PySem.W.Frag) (ie : E) : TI := fun σ H R => ∃ G ρ p xs, SR K G H σ ρ ∧ evE cf ie ρ = some p ∧ seqOf p = some xs ∧ ∀ J G' H', Ext G H G' H' → Walk K J G' xs → R J H'
section
variable {X : Cx} {cf : CF} {tg : Expr}
theorem _root_.L2.PI.weak {e : Expr} {t t' : TI} (h : PI X tg e t) (w : ∀ σ H Q, t' σ H Q → t σ H Q) : PI X tg e t' := fun pins s σ H Q I q => h pins s σ H Q I (w σ H Q q)
/-- over a list or a tuple -/
theorem pi_seq {l : Expr} {tl : TE} (hl : PE X l tl) : PI X tg l (fun σ H R => tl σ H fun x H1 => ∃ a, x = .ref a ∧ ((∃ xs, SqL X.K H1 a xs ∧ (xs.length ≤ sizeLine → R (Itl X.K a) H1)) ∨ ∃ xs, SqT X.K H1 a xs ∧ (xs.length ≤ sizeLine → R (Itt X.K a) H1))) := by
  intro pins s σ H R I h
  refine thn (hl pins s σ H _ I h) fun v s1 ⟨x, H1, I1, r1, q1⟩ => ?_
  obtain ⟨a, e, q⟩ := q1
  subst e
  cases r1
  rcases q with ⟨xs, hq, q⟩ | ⟨xs, hq, q⟩
  · obtain ⟨its, rv, p, hz⟩ := I1.list hq
    refine wpAny_pyIter_list p.isList ?_
    refine ⟨s1.heap.objs.size, [s1.heap.objs.size], _, _, H1, rfl, I1.kept (t' := s1.toks) fun b o e => Heap.get?_push_of_some _ e, turn_list a _, ⟨_, Heap.get?_push_size _ rfl, rfl, rfl⟩, fun b hb => ?_, q hz⟩
    have e : b = s1.heap.objs.size := by simpa using hb
    subst e
    exact I1.fpOk (Nat.le_refl _) (I1.hok.fresh (Nat.le_refl _))
  · obtain ⟨its, rv, p, hz⟩ := I1.tuple hq
    refine wpAny_pyIter_tuple (show s1.heap.IsTuple a its.toArray from p) ?_
    refine ⟨s1.heap.objs.size, [s1.heap.objs.size], _, _, H1, rfl, I1.kept (t' := s1.toks) fun b o e => Heap.get?_push_of_some _ e, turn_tuple a _, ⟨_, Heap.get?_push_size _ rfl, rfl, rfl⟩, fun b hb => ?_, q hz⟩
    have e : b = s1.heap.objs.size := by simpa using hb
    subst e
    exact I1.fpOk (Nat.le_refl _) (I1.hok.fresh (Nat.le_refl _))
theorem it_seq {ie : E} {e : Expr} (h : PE X e (tE cf X.K ie)) (hk : isPeek ie = false) : PI X tg e (tI cf X.K ie) :=
  (pi_seq h).weak fun σ H R ⟨G, ρ, p, xs, S, e1, e2, k⟩ => by
    refine ⟨G, ρ, p, S, e1, fun v G' H' x r => ?_⟩
    have r' := r.rp hk
    cases p with
    | list ps =>
      have e3 : ps = xs := Option.some.inj e2
      subst e3
      obtain ⟨a, vs, rfl, q, rr⟩ := (show ∃ a vs, v = V.ref a ∧ SqL X.K G' a vs ∧ RpL X.K G' ps vs from r')
      exact ⟨a, rfl, .inl ⟨vs, x.gh.sqL q, fun hz => k _ G' H' x (walk_list q rr hz)⟩⟩
    | tuple ps =>
      have e3 : ps = xs := Option.some.inj e2
      subst e3
      obtain ⟨a, vs, rfl, q, rr⟩ := (show ∃ a vs, v = V.ref a ∧ SqT X.K G' a vs ∧ RpL X.K G' ps vs from r')
      exact ⟨a, rfl, .inr ⟨vs, x.gh.sqT q, fun hz => k _ G' H' x (walk_tup q rr hz)⟩⟩
    | _ => cases e2
theorem it_rng {ia : E} {a : Expr} {p pos : Pos} (ha : PE X a (tE cf X.K ia)) (hk : isPeek ia = false) (hs : plainE a = true) (hg : Gl X "range") (hm : X.mg "range" = none) : PI X tg (.Call (.Name "range" p) [a] [] pos) (tI cf X.K (.rng ia)) :=
  (pi_range1 hg hm (pa_cons ha pa_nil (star_of hs _ _)) (star_of hs _ _)).weak fun σ H R ⟨G, ρ, q, xs, S, e1, e2, k⟩ => by
    obtain ⟨x, ex, er⟩ := bnd_eq.mp (show bnd (evE cf ia ρ) (fun x => rngI (.int 0) x) = some q from e1)
    refine ⟨G, ρ, x, S, ex, fun v G1 H1 x1 r1 => ?_⟩
    have r' := r1.rp hk
    cases x with
    | int n =>
      cases (show v = .int n from r')
      have er' : (if -1000000 ≤ (0 : Int) ∧ (0 : Int) ≤ 1000000 ∧ -1000000 ≤ n ∧ n ≤ 1000000 then some (PyData.list ((List.range (n - 0).toNat).map fun k => .int (0 + (k : Nat)))) else none) = some q := er
      by_cases hc : -1000000 ≤ (0 : Int) ∧ (0 : Int) ≤ 1000000 ∧ -1000000 ≤ n ∧ n ≤ 1000000
      · rw [if_pos hc] at er'
        cases er'
        cases (show some ((List.range (n - 0).toNat).map fun k => PyData.int (0 + (k : Nat))) = some xs from e2)
        refine ⟨n, rfl, by omega, by omega, k _ G1 H1 x1 ?_⟩
        have := walk_rng (K := X.K) (G := G1) 0 n.toNat (by omega)
        rw [Int.sub_zero]
        exact this
      · rw [if_neg hc] at er'; cases er'
    | _ => simp at er
end

/-! ### a comprehension -/
/-- the items that a target takes -/
def bindV (K : PySem.W.Frag) : Option Nat → V → Hp → (List V → Prop) → Prop
  | none, v, _, P => P [v]
  | some n, v, H, P => ∃ a xs, v = .ref a ∧ SqT K H a xs ∧ xs.length = n ∧ P xs
structure BlkOk (X : Cx) (cf : CF) (own : List Str) (caps : List Nat) (scope : Scope) (tg : Option Nat) (target : Expr) (ifs : List Expr) (elt : Expr) (icond ielt : E) : Prop where
  tgt : ∀ X', Blk X (namesC X own caps) scope X' → PG X' target fun v σ H Q => own.length ≤ σ.length ∧ bindV X.K tg v H fun vs => vs.length = own.length ∧ Q (vs.map some ++ σ.drop own.length) H
  tst : ∀ X', Blk X (namesC X own caps) scope X' → ∀ (pins : List (Addr × Obj)) (s : Shared) (σ : St) (H : Hp) (Q : Bool → Hp → Prop), Inv X' pins σ H s → tT cf X.K icond σ H Q →
    wpAny (model X.prog X.w) X.A (forIn ifs true fun c r => if r = true then do let ok ← isTrue c X'.env (eval c X'.env); pure (ForInStep.yield ok) else pure (ForInStep.yield r)) (TP X' pins σ Q) (fun _ _ => False) s
  elt : ∀ X', Blk X (namesC X own caps) scope X' → PE X' elt (tE cf X.K ielt)
theorem nodup_at {α : Type} {N : List α} (hN : N.Nodup) {i j : Nat} {x : α} (a : N[i]? = some x) (b : N[j]? = some x) : i = j := by
  obtain ⟨h1, e1⟩ := List.getElem?_eq_some_iff.mp a
  obtain ⟨h2, e2⟩ := List.getElem?_eq_some_iff.mp b
  exact (List.getElem_inj hN).mp (e1.trans e2.symm)
theorem SR.block {K : PySem.W.Frag} {G H : Hp} {σ : St} {ρ : Env} {caps : List Nat} {ps : List PV} {vs : List V} (S : SR K G H σ ρ) (hd : caps.Nodup) (r : RpL K G ps vs) :
    SR K G H (vs.map some ++ caps.map fun j => σ.getD j none) (ps.map Sl.val ++ caps.map fun j => ρ.getD j .un) := by
  have hl := r.length
  refine ⟨by simp [hl], S.sub, fun i sl o e1 e2 => ?_, fun i j si sj a hij e1 e2 o1 o2 e3 e4 => ?_⟩
  · by_cases hi : i < ps.length
    · rw [List.getElem?_append_left (by simpa using hi), List.getElem?_map] at e1
      rw [List.getElem?_append_left (by simp; omega), List.getElem?_map] at e2
      cases q : ps[i]? with
      | none => rw [q] at e1; cases e1
      | some p =>
        rw [q] at e1
        cases e1
        obtain ⟨v, ev, rv⟩ := r.get q
        rw [ev] at e2
        cases e2
        exact ⟨v, rfl, rv⟩
    · rw [List.getElem?_append_right (by simpa using hi), List.getElem?_map] at e1
      rw [List.getElem?_append_right (by simp; omega), List.getElem?_map] at e2
      rw [List.length_map] at e1 e2
      rw [← hl] at e2
      cases q : caps[i - ps.length]? with
      | none => rw [q] at e1; cases e1
      | some j =>
        rw [q] at e1 e2
        simp only [Option.map_some, Option.some.injEq] at e1 e2
        rw [List.getD_eq_getElem?_getD] at e1 e2
        cases qr : ρ[j]? with
        | none => rw [qr] at e1; cases e1; trivial
        | some sl' =>
          rw [qr] at e1
          obtain ⟨o', eo, so⟩ := S.at qr
          rw [eo] at e2
          cases e1; cases e2
          exact so
  · have pick : ∀ (m : Nat) (sl : Sl), (ps.map Sl.val ++ caps.map fun j => ρ.getD j .un)[m]? = some sl → isOwn sl = true → ps.length ≤ m ∧ ∃ c, caps[m - ps.length]? = some c ∧ ρ[c]? = some sl := fun m sl e h => by
      by_cases hm : m < ps.length
      · rw [List.getElem?_append_left (by simpa using hm), List.getElem?_map] at e
        cases q : ps[m]? with
        | none => rw [q] at e; cases e
        | some p => rw [q] at e; cases e; cases h
      · rw [List.getElem?_append_right (by simpa using hm), List.getElem?_map, List.length_map] at e
        cases q : caps[m - ps.length]? with
        | none => rw [q] at e; cases e
        | some c =>
          rw [q] at e
          simp only [Option.map_some, Option.some.injEq] at e
          rw [List.getD_eq_getElem?_getD] at e
          cases qr : ρ[c]? with
          | none => rw [qr] at e; cases e; cases h
          | some sl' => rw [qr] at e; cases e; exact ⟨by omega, c, rfl, qr⟩
    obtain ⟨l1, c1, q1, r1⟩ := pick i si e1 o1
    obtain ⟨l2, c2, q2, r2⟩ := pick j sj e2 o2
    have hne : c1 ≠ c2 := fun z => by
      subst z
      have := nodup_at hd q1 q2
      omega
    have rd : ∀ (m c : Nat), ps.length ≤ m → caps[m - ps.length]? = some c → (vs.map some ++ caps.map fun j => σ.getD j none)[m]? = some (some (.ref a)) → σ[c]? = some (some (.ref a)) := fun m c lm qc e => by
      rw [List.getElem?_append_right (by simp; omega), List.getElem?_map, List.length_map, ← hl, qc] at e
      simp only [Option.map_some, Option.some.injEq] at e
      rw [List.getD_eq_getElem?_getD] at e
      cases q : σ[c]? with
      | none => rw [q] at e; cases e
      | some o => rw [q] at e; exact congrArg some e
    exact S.apart c1 c2 si sj a hne r1 r2 o1 o2 (rd i c1 l1 q1 e3) (rd j c2 l2 q2 e4)
end DD
set_option Elab.async false
set_option linter.all false
set_option maxRecDepth 100000
namespace DD
open PySem PySem.Spec PyProof.Rows L2

theorem compF_cons {g : PV → Option (Option PV)} {x : PV} {xs rs : List PV} (h : compF g (x :: xs) = some rs) : ∃ o t, g x = some o ∧ compF g xs = some t ∧ rs = addO o t := by
  unfold compF at h
  obtain ⟨o, e1, e2⟩ := bnd_eq.mp h
  obtain ⟨t, e3, e4⟩ := bnd_eq.mp e2
  cases e4
  exact ⟨o, t, e1, e3, rfl⟩
theorem Ext.mut {G0 H0 G H : Hp} (x : Ext G0 H0 G H) {a : Addr} (h0 : H0 a = none) (hg : G a = none) (o : HO) : Ext G0 H0 G (L2.upd H a o) := by
  refine ⟨fun b u q => ?_, x.gg, fun b u q => ?_, x.old⟩
  · rw [upd_ne (ne_of_none q h0)]; exact x.hh b u q
  · rw [upd_ne (ne_of_none q hg)]; exact x.gh b u q
theorem foldedSet_of {iter : Expr} {env : PySem.Env} (h : (match iter with | .Set .. => false | _ => true) = true) : ∀ x, foldedSetIterable iter env x = pure x := by
  intro x
  cases iter <;> first | rfl | exact absurd h Bool.false_ne_true

/-- what the block does with one item -/
def turnC (cf : CF) (tg : Option Nat) (capρ : Env) (icond ielt : E) : PV → Option (Option PV) := fun x =>
  bnd (bindT tg x) fun bs => bnd (evE cf icond (bs ++ capρ)) fun c => bnd (truthF c) fun t => if t then bnd (evE cf ielt (bs ++ capρ)) fun y => some (some y) else some none
theorem turnC_inv {cf : CF} {tg : Option Nat} {capρ : Env} {icond ielt : E} {x : PV} {o : Option PV} (h : turnC cf tg capρ icond ielt x = some o) :
    ∃ ps c t, bindT tg x = some (ps.map Sl.val) ∧ ((tg = none ∧ ps = [x]) ∨ (∃ n, tg = some n ∧ x = .tuple ps ∧ ps.length = n)) ∧ evE cf icond (ps.map Sl.val ++ capρ) = some c ∧ truthF c = some t ∧
      (t = true → ∃ y, evE cf ielt (ps.map Sl.val ++ capρ) = some y ∧ o = some y) ∧ (t = false → o = none) := by
  unfold turnC at h
  obtain ⟨bs, e1, h⟩ := bnd_eq.mp h
  obtain ⟨c, e2, h⟩ := bnd_eq.mp h
  obtain ⟨t, e3, h⟩ := bnd_eq.mp h
  have hb : ∃ ps, bs = ps.map Sl.val ∧ ((tg = none ∧ ps = [x]) ∨ (∃ n, tg = some n ∧ x = .tuple ps ∧ ps.length = n)) := by
    cases tg with
    | none =>
      cases (show some [Sl.val x] = some bs from e1)
      exact ⟨[x], rfl, .inl ⟨rfl, rfl⟩⟩
    | some n =>
      cases x with
      | tuple xs =>
        have e1' : (if xs.length = n then some (xs.map Sl.val) else none) = some bs := e1
        by_cases hl : xs.length = n
        · rw [if_pos hl] at e1'
          cases e1'
          exact ⟨xs, rfl, .inr ⟨n, rfl, rfl, hl⟩⟩
        · rw [if_neg hl] at e1'; cases e1'
      | _ => cases (show none = some bs from e1)
  obtain ⟨ps, rfl, hp⟩ := hb
  refine ⟨ps, c, t, e1, hp, e2, e3, fun ht => ?_, fun ht => ?_⟩
  · subst ht
    obtain ⟨y, e4, e5⟩ := bnd_eq.mp (show bnd (evE cf ielt (ps.map Sl.val ++ capρ)) (fun y => some (some y)) = some o from h)
    cases e5
    exact ⟨y, e4, rfl⟩
  · subst ht
    cases (show some none = some o from h)
    rfl
theorem SR.mut {K : PySem.W.Frag} {G H : Hp} {σ : St} {ρ : Env} (S : SR K G H σ ρ) {a : Addr} (ha : ∀ (i : Nat) (ps : List PV), ρ[i]? = some (Sl.own ps) → σ[i]? ≠ some (some (V.ref a))) (hg : G a = none) (o : HO) : SR K G (L2.upd H a o) σ ρ := by
  refine ⟨S.len, fun b u q => by rw [upd_ne (ne_of_none q hg)]; exact S.sub b u q, fun i sl v e1 e2 => ?_, S.apart⟩
  have h := S.get i sl v e1 e2
  cases sl with
  | un => exact h
  | val p => exact h
  | own ps =>
    obtain ⟨b, vs, rfl, h1, h2, r⟩ := h
    refine ⟨b, vs, rfl, ?_, h2, r⟩
    rw [upd_ne]
    · exact h1
    · rintro rfl
      exact ha i ps e1 e2
section
variable {X : Cx} {cf : CF}
theorem comp_block {own : List Str} {caps : List Nat} {scope : Scope} {tg : Option Nat} {target iter elt : Expr} {ifs : List Expr} {icond ielt : E} {pos : Pos} {cl : List (Str × Addr)} {C D it : Addr} {s3 s4 : Shared} {fp : List Addr} {tn : Nat → Heap → Prop} {J : It}
    {G2 H2 : Hp} {σ : St} {ρ : Env} {xs rs : List PV} {R : Result → Shared → Prop} (hcd : caps.Nodup) (hown : own.length = tg.getD 1) (hpk : isPeek ielt = false) (T : Turn X.prog X.w X.K target J fp it tn) (wk : Walk X.K J G2 xs)
    (B : BlkOk X cf own caps scope tg target ifs elt icond ielt) (S : SR X.K G2 H2 σ ρ) (hDn : H2 D = none) (fpD : ∀ b ∈ fp, b ≠ D) (f2 : ∀ b ∈ fp, H2 b = none)
    (fpk : ∀ (H : Hp) (b : Addr), b ∈ fp → H b = none → FpOk (cxC X (namesC X own caps) scope cl C s3 (upd H2 D (.lst [])) fp) [] H b)
    (I4 : Inv (cxC X (namesC X own caps) scope cl C s3 (upd H2 D (.lst [])) fp) [] (slotsC own caps σ) (upd H2 D (.lst [])) s4) (st4 : tn 0 s4.heap)
    (e3 : compF (turnC cf tg (caps.map fun j => ρ.getD j .un) icond ielt) xs = some rs)
    (fin : ∀ s' σ' H' G' ys, Inv (cxC X (namesC X own caps) scope cl C s3 (upd H2 D (.lst [])) fp) [] σ' H' s' → Ext G2 H2 G' H' → H' D = some (.lst ys) → G' D = none → RpL X.K G' rs ys → R (.ok .next) s') :
    codeAny (model X.prog X.w) X.A (.compStart (.ListComp elt [⟨target, iter, ifs, 0⟩] scope pos) 0 (.ref it) (.ref D) (compEnvC scope cl C X.env)) R s4 := by
  generalize hX : cxC X (namesC X own caps) scope cl C s3 (upd H2 D (.lst [])) fp = X' at I4 fin fpk
  have hprog : X'.prog = X.prog := by rw [← hX]; rfl
  have hw : X'.w = X.w := by rw [← hX]; rfl
  have hK : X'.K = X.K := by rw [← hX]; rfl
  have hA : X'.A = X.A := by rw [← hX]; rfl
  have henv : X'.env = compEnvC scope cl C X.env := by rw [← hX]; rfl
  have hcalm : X'.calm = true := by rw [← hX]; rfl
  have hxe : X'.xe = fun _ _ => False := by rw [← hX]; rfl
  have blk : Blk X (namesC X own caps) scope X' := ⟨hprog, hw, hK, by rw [← hX]; rfl, by rw [← hX]; rfl, hA, by rw [← hX]; rfl, by rw [← hX]; rfl, hcalm, hxe⟩
  have hDO : ∀ (i : Nat) (ps : List PV), ρ[i]? = some (Sl.own ps) → σ[i]? ≠ some (some (V.ref D)) := fun i ps e z => by
    obtain ⟨o, eo, a, vs, rfl, h1, _⟩ := S.at e
    rw [eo] at z
    cases z
    rw [hDn] at h1; cases h1
  have loop : codeAny (model X.prog X.w) X.A (.compLoop (.ListComp elt [⟨target, iter, ifs, 0⟩] scope pos) 0 (.ref it) (.ref D) (compEnvC scope cl C X.env)) R s4 := by
    refine compLoop_gen (fun n s' => ∃ i σ' H' G' ys rs' tl, n = xs.length - i ∧ i ≤ xs.length ∧ Inv X' [] σ' H' s' ∧ tn i s'.heap ∧ (∀ b ∈ fp, H' b = none) ∧ Ext G2 H2 G' H' ∧ H' D = some (.lst ys) ∧ G' D = none ∧ RpL X.K G' rs' ys ∧ ys.length ≤ i ∧
      compF (turnC cf tg (caps.map fun j => ρ.getD j .un) icond ielt) (xs.drop i) = some tl ∧ rs = rs' ++ tl ∧ own.length ≤ σ'.length ∧ σ'.drop own.length = caps.map fun j => σ.getD j none) ?_ xs.length ?_
    · rintro n s' ⟨i, σ', H', G', ys, rs', tl, rfl, hi, I', st', fr', x', hD', gD', r', hly, et, er, hol, hσ⟩
      by_cases hlt : i < xs.length
      · have hx : xs.drop i = xs[i] :: xs.drop (i + 1) := List.drop_eq_getElem_cons hlt
        rw [hx] at et
        obtain ⟨o, t', eo, et', rfl⟩ := compF_cons et
        have step := T.item X' hprog hw hK hcalm i [] s' σ' H' (fun _ _ => False) I' (fun b hb => fpk H' b hb (fr' b hb)) st' (wk.go i H' (x'.gg.trans x'.gh) hlt)
        rw [hA] at step
        refine thn step fun r s5 ⟨u, hr, h5⟩ => ?_
        subst hr
        refine thn h5 fun _ s6 ⟨x, H6, I6, rx, y6, st6, fr6⟩ => ?_
        obtain ⟨rfl, px, epx, rpx⟩ := wk.yld i H' x H6 (x'.gg.trans x'.gh) hlt y6
        have epx' : xs[i] = px := by rw [List.getElem?_eq_getElem hlt] at epx; exact Option.some.inj epx
        subst epx'
        obtain ⟨ps, c, t, eb, hp, ec, ett, hyes, hno⟩ := turnC_inv eo
        have I6' := I6.pinned (fun b hb => fpk H6 b hb (fr6 b hb)) (T.obj _ _ st6)
        -- what stays true of the iterator behind code that keeps the pins
        have keepT : ∀ {σa : St} {Ha : Hp} {sa : Shared}, Inv X' ([] ++ pinsAt fp s6.heap) σa Ha sa → tn (i + 1) sa.heap ∧ ∀ b ∈ fp, Ha b = none := fun {σa Ha sa} Ia => by
          refine ⟨T.keep _ _ _ st6 fun b hb o e => (Ia.pin (b, o) (List.mem_append_right _ (List.mem_append_right _ (mem_pinsAt hb e)))).1, fun b hb => ?_⟩
          obtain ⟨o, e, d⟩ := T.obj _ _ st6 b hb
          exact (Ia.pin (b, o) (List.mem_append_right _ (List.mem_append_right _ (mem_pinsAt hb e)))).2.1
        have hbind : ∃ vs, RpL X.K G2 ps vs ∧ vs.length = own.length ∧ ∀ P : List V → Prop, P vs → bindV X.K tg x H6 P := by
          rcases hp with ⟨rfl, rfl⟩ | ⟨m, rfl, hpx, hm⟩
          · exact ⟨[x], .one rpx, by rw [hown]; rfl, fun P h => h⟩
          · rw [hpx] at rpx
            obtain ⟨a, vs, rfl, qa, ra⟩ := (show ∃ a vs, x = V.ref a ∧ SqT X.K G2 a vs ∧ RpL X.K G2 ps vs from rpx)
            refine ⟨vs, ra, by rw [hown, ← ra.length]; exact hm, fun P h => ⟨a, vs, rfl, (x'.gg.trans x'.gh).sqT qa, by rw [← ra.length]; exact hm, h⟩⟩
        obtain ⟨vs, rvs, lvs, hb⟩ := hbind
        have asg := B.tgt X' blk _ s6 σ' H6 x u (fun σ7 H7 => σ7 = vs.map some ++ caps.map (fun j => σ.getD j none) ∧ H7 = H6) I6' rx ⟨hol, hb _ ⟨lvs, by rw [hσ], rfl⟩⟩
        rw [hprog, hw, hA, henv, hxe] at asg
        refine thn asg fun _ s7 ⟨σ7, H7, I7, hσ7, hH7⟩ => ?_
        subst hσ7 hH7
        have Sb : SR X.K G' H7 (vs.map some ++ caps.map fun j => σ.getD j none) (ps.map Sl.val ++ caps.map fun j => ρ.getD j .un) := (S.ext x').block hcd (rvs.mono x'.gg)
        have tst := B.tst X' blk _ s7 _ H7 (fun b H8 => b = t ∧ ∃ G8, Ext G' H7 G8 H8) I7 ⟨G', _, c, t, Sb, ec, ett, fun G8 H8 x8 => ⟨rfl, G8, x8⟩⟩
        rw [henv] at tst
        refine thn tst fun b s8 ⟨H8, I8, hbt, G8, x8⟩ => ?_
        subst hbt
        have hD8 : H8 D = some (.lst ys) := x8.hh _ _ hD'
        have gD8 : G8 D = none := (x8.old _ _ hD').trans gD'
        have hdrop : (vs.map some ++ caps.map fun j => σ.getD j none).drop own.length = caps.map fun j => σ.getD j none := by
          have : (vs.map some : St).length = own.length := by rw [List.length_map]; exact lvs
          rw [← this, List.drop_left]
        have hlen7 : own.length ≤ (vs.map some ++ caps.map fun j => σ.getD j none : St).length := by
          rw [List.length_append, List.length_map, lvs]; exact Nat.le_add_right _ _
        cases b with
        | false =>
          rw [if_neg Bool.false_ne_true]
          obtain ⟨k1, k2⟩ := keepT I8
          refine ⟨xs.length - (i + 1), by omega, i + 1, _, H8, G8, ys, rs', t', rfl, hlt, I8.unpinned, k1, k2, x'.trans x8, hD8, gD8, r'.mono x8.gg, by omega, et', ?_, hlen7, hdrop⟩
          rw [er, hno rfl]; rfl
        | true =>
          rw [if_pos rfl]
          obtain ⟨y, ey, hoy⟩ := hyes rfl
          have el := B.elt X' blk _ s8 _ H8 (fun v H9 => ∃ G9, Ext G8 H8 G9 H9 ∧ Rp X.K G9 y v) I8 ⟨G8, _, y, Sb.ext x8, ey, fun v G9 H9 x9 r9 => ⟨G9, x9, r9.rp hpk⟩⟩
          rw [hprog, hw, hA, henv, hxe] at el
          refine thn el fun w9 s9 ⟨v, H9, I9, rv, G9, x9, ry⟩ => ?_
          have hD9 : H9 D = some (.lst ys) := x9.hh _ _ hD8
          have gD9 : G9 D = none := (x9.old _ _ hD8).trans gD8
          have ap := mt_append (X := X') _ s9 _ H9 (.ref D) [v] (.ref D) [w9] (fun _ H10 => H10 = upd H9 D (.lst (ys ++ [v]))) I9 rfl (.cons rv .nil) ⟨D, ys, v, rfl, rfl, hD9, by have := wk.len; rw [line_eq]; omega, rfl⟩
          rw [hprog, hw, hA, hxe] at ap
          refine thn ap fun _ s10 ⟨_, H10, I10, _, h10⟩ => ?_
          subst h10
          obtain ⟨k1, k2⟩ := keepT I10
          refine ⟨xs.length - (i + 1), by omega, i + 1, _, _, G9, ys ++ [v], rs' ++ [y], t', rfl, hlt, I10.unpinned, k1, k2, (x'.trans (x8.trans x9)).mut hDn gD9 _, upd_same, gD9, ((r'.mono x8.gg).mono x9.gg).append (.one ry), by simp; omega, et', ?_, hlen7, hdrop⟩
          rw [er, hoy, List.append_assoc]; rfl
      · have hie : i = xs.length := by omega
        subst hie
        have done := T.done X' hprog hw hK hcalm xs.length [] s' σ' H' (fun _ _ => False) I' (fun b hb => fpk H' b hb (fr' b hb)) st' (wk.stop _ H' (x'.gg.trans x'.gh) (Nat.le_refl _))
        rw [hA] at done
        refine thn done fun r s5 ⟨hr, I5⟩ => ?_
        subst hr
        rw [List.drop_length] at et
        cases (show some [] = some tl from et)
        rw [List.append_nil] at er
        subst er
        exact fin s5 σ' H' G' ys I5 x' hD' gD' r'
    · refine ⟨0, _, _, G2, [], [], rs, by simp, Nat.zero_le _, I4, st4, fun b hb => ?_, ?_, upd_same, S.sub.fresh hDn, .nil, Nat.le_refl _, by simpa using e3, rfl, ?_, ?_⟩
      · rw [upd_ne (fpD b hb)]; exact f2 b hb
      · exact (Ext.refl S.sub).mut hDn (S.sub.fresh hDn) _
      · unfold slotsC; simp
      · unfold slotsC
        exact List.drop_left' List.length_replicate
  refine codeAny_compStart_list loop (T.self X.A 0 s4 _ _ st4 loop)
theorem Ext.frz {G0 H0 G H : Hp} (x : Ext G0 H0 G H) {a : Addr} {o : HO} (h0 : H0 a = none) (hg : G a = none) (hh : H a = some o) : Ext G0 H0 (L2.upd G a o) H := by
  refine ⟨x.hh, fun b u q => ?_, fun b u q => ?_, fun b u q => ?_⟩
  · have := x.gg b u q
    rw [upd_ne (ne_of_none this hg)]; exact this
  · by_cases e : b = a
    · subst e; rw [upd_same] at q; cases q; exact hh
    · rw [upd_ne e] at q; exact x.gh b u q
  · rw [upd_ne (ne_of_none q h0)]; exact x.old b u q
theorem inv_back {pins : List (Addr × Obj)} {σ σ' : St} {H3 H' : Hp} {s3 s' : Shared} {N' : List Str} {scope : Scope} {cl : List (Str × Addr)} {fp : List Addr} {h'' : Heap} (I3 : Inv X pins σ H3 s3)
    (I' : Inv (cxC X N' scope cl s3.heap.objs.size s3 H3 fp) [] σ' H' s') (hs : Heap.SameBut s3.heap.objs.size s'.heap h'') (hfp : ∀ b ∈ fp, FpOk X pins H3 b) : Inv X pins σ H' { s' with heap := h'' } := by
  have ne : ∀ b o, s3.heap.get? b = some o → b ≠ s3.heap.objs.size := fun b o e => Nat.ne_of_lt (Heap.lt_size e)
  have B : Un (frs X.stack) fp H3 H' s3.heap s'.heap := I'.base
  refine I3.call' (s' := { s' with heap := h'' }) (ch := fp) I'.os ⟨fun b o e n hb hx => ?_, fun b o e n hb hx => ?_, B.free, fun b o e hx => ?_, B.tups, B.frzs, B.tbls⟩ (fun b ob e => ?_) I'.bare (fun b hb => ?_)
  · exact (hs.2 b (ne b o e)).trans (B.keep b o e n hb hx)
  · obtain ⟨sl, e1⟩ := B.slot b o e n hb hx
    exact ⟨sl, (hs.2 b (ne b o e)).trans e1⟩
  · obtain ⟨o', e1⟩ := B.there b o e hx
    exact ⟨o', (hs.2 b (ne b o e)).trans e1⟩
  · refine (I'.hok b ob e).stay (fun c w' hc q => (hs.2 c ?_).trans q) (fun _ q => q) fun _ _ q => q
    rintro rfl
    have hfree : H' s3.heap.objs.size = none := I'.free
    rcases hc with rfl | hc
    · rw [hfree] at e; cases e
    · rw [hfree] at hc; cases hc
  · obtain ⟨_, a2, _, a4, a5, a6⟩ := hfp b hb
    exact ⟨a4, a2, a5, a6⟩
theorem comp_core {own : List Str} {caps : List Nat} {scope : Scope} {tg : Option Nat} {target iter elt : Expr} {ifs : List Expr} {iit icond ielt : E} {pos : Pos} {pins : List (Addr × Obj)} {s : Shared} {σ : St} {G H : Hp} {ρ : Env} {sq : PV} {xs rs : List PV} {RR : Value → Addr → Result → Shared → Prop}
    (hcalm : X.calm = true) (CS : CScope X own caps scope) (hd : caps.Nodup) (hown : own.length = tg.getD 1) (hpk : isPeek ielt = false)
    (hit : PI X target iter (tI cf X.K iit)) (B : BlkOk X cf own caps scope tg target ifs elt icond ielt) (I : Inv X pins σ H s) (S : SR X.K G H σ ρ) (e1 : evE cf iit ρ = some sq) (e2 : seqOf sq = some xs)
    (e3 : compF (turnC cf tg (caps.map fun j => ρ.getD j .un) icond ielt) xs = some rs)
    (fin : ∀ (D : Addr) (s3 s' : Shared) (σ' : St) (H3 H' G' : Hp) (ys : List V) (fp : List Addr), Inv X pins σ H3 s3 → Inv (cxC X (namesC X own caps) scope (clOf X.env.cells scope.names []) s3.heap.objs.size s3 H3 fp) [] σ' H' s' → (∀ b ∈ fp, FpOk X pins H3 b) →
      H D = none → Ext G H G' H' → H' D = some (.lst ys) → G' D = none → RpL X.K G' rs ys → RR (.ref D) s3.heap.objs.size (.ok .next) s') :
    wpAny (model X.prog X.w) X.A (eval iter X.env) (fun x s₁ => wpAny (model X.prog X.w) X.A (pyIter x) (fun it s₂ => wpAny (model X.prog X.w) X.A (newList []) (fun acc s₃ =>
      wpAny (model X.prog X.w) X.A (newFunctionEnv scope X.env.globals (clOf X.env.cells scope.names []) [] X.env.qual none .none (some X.env)) (fun cenv s₄ =>
        codeAny (model X.prog X.w) X.A (.compStart (.ListComp elt [⟨target, iter, ifs, 0⟩] scope pos) 0 it acc { cenv with scope := relabel scope X.env }) (RR acc cenv.locals) s₄) X.xe s₃) X.xe s₂) X.xe s₁) X.xe s := by
  have w0 := hit pins s σ H (fun J H2 => ∃ G2, Ext G H G2 H2 ∧ Walk X.K J G2 xs) I ⟨G, ρ, sq, xs, S, e1, e2, fun J G' H' x w => ⟨G', x, w⟩⟩
  refine wpAny_mono w0 (fun v s1 h1 => wpAny_mono h1 (fun itv s2 h2 => ?_) fun _ _ z => z) fun _ _ z => z
  obtain ⟨it, fp, tn, J, H2, rfl, I2, T, st2, f2, G2, x2, wk⟩ := h2
  refine wpAny_newObj_type (wpAny_newFunctionEnv CS.nocell (by intro y hy; simp at hy) (fun h₁ hns₁ hsb₁ => ?_) CS.kind)
  dsimp only at hns₁ hsb₁ ⊢
  generalize hD : s2.heap.objs.size = D at hns₁ hsb₁ ⊢
  have fo2 := T.obj 0 _ st2
  have hDn : H2 D = none := by rw [← hD]; exact I2.hok.fresh (Nat.le_refl _)
  have fpD : ∀ b ∈ fp, b ≠ D := fun b hb => by
    obtain ⟨o, eo, _⟩ := fo2 b hb
    rw [← hD]; exact Nat.ne_of_lt (Heap.lt_size eo)
  have I3 : Inv X pins σ (upd H2 D (.lst [])) { s2 with heap := s2.heap.push { cls := .type "list", dict := none, data := .seq ([] : List Value).toArray } } := by
    refine I2.laid (t' := s2.toks) (fun b o e => Heap.get?_push_of_some _ e) (by rw [hD]; exact Nat.le_refl _) ?_
    exact ⟨Nat.zero_le _, [], 0, .nil, by rw [← hD]; exact Heap.get?_push_size _ rfl⟩
  have kept : ∀ b o, s2.heap.get? b = some o → h₁.get? b = some o := fun b o e => by
    have e' := Heap.get?_push_of_some { cls := .type "list", dict := none, data := .seq ([] : List Value).toArray } e
    exact hsb₁.extBut b o (Nat.ne_of_lt (Heap.lt_size e')) (Heap.get?_push_of_some _ e')
  have keep3 : ∀ b o, (s2.heap.push { cls := .type "list", dict := none, data := .seq ([] : List Value).toArray }).get? b = some o → h₁.get? b = some o := fun b o e =>
    hsb₁.extBut b o (Nat.ne_of_lt (Heap.lt_size e)) (Heap.get?_push_of_some _ e)
  have fp3 : ∀ b ∈ fp, FpOk X pins (upd H2 D (.lst [])) b := fun b hb => by
    obtain ⟨a1, a2, a3, a4, a5, a6⟩ := f2 b hb
    exact ⟨by rw [upd_ne (fpD b hb)]; exact a1, a2, a3, a4, a5, a6⟩
  have fo3 : ∀ b ∈ fp, ∃ o, (s2.heap.push { cls := .type "list", dict := none, data := .seq ([] : List Value).toArray }).get? b = some o := fun b hb => by
    obtain ⟨o, eo, _⟩ := fo2 b hb
    exact ⟨o, Heap.get?_push_of_some _ eo⟩
  have I4 := inv_comp (h1 := h₁) (t := s2.toks + ([] : List (Str × Value)).length) I3 CS hcalm fp3 fo3 hns₁ keep3
  have S2 := S.ext x2
  have st4 : tn 0 h₁ := T.keep 0 _ _ st2 fun b _ o e => kept b o e
  refine comp_block (H2 := H2) (σ := σ) (ρ := ρ) hd hown hpk T wk B S2 hDn fpD (fun b hb => (f2 b hb).1) (fun Hx b hb hn => ?_) I4 st4 e3 (fun s' σ' H' G' ys I' x' hD' gD' r' => ?_)
  · obtain ⟨a1, a2, a3, a4, a5, a6⟩ := f2 b hb
    obtain ⟨o, eo⟩ := fo3 b hb
    exact ⟨hn, Nat.ne_of_lt (Heap.lt_size eo), (I4.ok.exfs b hb), .inl hb, (I4.ok.exf b hb).2, fun p hp => absurd (show p ∈ ([] : List (Addr × Obj)) from hp) (by simp)⟩
  · have hDH : H D = none := by
      cases q : H D with
      | none => rfl
      | some o => have := x2.hh D o q; rw [hDn] at this; cases this
    exact fin D _ s' σ' _ H' G' ys fp I3 I' fp3 hDH (x2.trans x') hD' gD' r'
theorem pe_comp {own : List Str} {caps : List Nat} {scope : Scope} {tg : Option Nat} {target iter elt : Expr} {ifs : List Expr} {iit icond ielt : E} {pos : Pos} (hcalm : X.calm = true) (CS : CScope X own caps scope) (hd : caps.Nodup) (hown : own.length = tg.getD 1) (hpk : isPeek ielt = false)
    (hit : PI X target iter (tI cf X.K iit)) (hfs : ∀ x, foldedSetIterable iter X.env x = pure x) (B : BlkOk X cf own caps scope tg target ifs elt icond ielt) :
    PE X (.ListComp elt [⟨target, iter, ifs, 0⟩] scope pos) (tE cf X.K (.comp tg caps iit icond ielt)) := by
  intro pins s σ H Q I h
  obtain ⟨G, ρ, p, S, e, k⟩ := h
  obtain ⟨sq, e1, e⟩ := bnd_eq.mp (show bnd (evE cf iit ρ) _ = some p from e)
  obtain ⟨xs, e2, e⟩ := bnd_eq.mp e
  obtain ⟨rs, e3, e⟩ := bnd_eq.mp e
  cases (show some (PyData.list rs) = some p from e)
  have hfr : ∀ x ∈ scope.names, x.2 = .free → ∃ c, X.env.cells.lookup x.1 = some c := fun x hx e => I.ok.has x.1 (CS.frees x hx e)
  rw [eval_ListComp]
  refine wpAny_comprehension_free (use := none) rfl hfs (closure_of hfr) CS.kind CS.locals ?_
  refine comp_core (RR := fun acc C => compPost (model X.prog X.w) X.A X.xe none (EP X pins σ Q) acc C) hcalm CS hd hown hpk hit B I S e1 e2 e3 fun D s3 s' σ' H3 H' G' ys fp I3 I' fp3 hDH x hD' gD' r' => ?_
  obtain ⟨m', hn', _⟩ := I'.loc
  refine ⟨m', hn', fun h'' hs'' => ?_⟩
  refine ⟨.ref D, H', inv_back I3 I' hs'' fp3, rfl, k _ _ _ (x.frz hDH gD' hD') (.of rfl ⟨D, ys, rfl, SqL.of upd_same, r'.mono ?_⟩)⟩
  exact .new gD' _
/-- name = [..] where the store stands ahead of the block's end -/
theorem ps_comp {own : List Str} {caps : List Nat} {scope : Scope} {tg : Option Nat} {target iter elt : Expr} {ifs : List Expr} {iit icond ielt : E} {pos spos py : Pos} {i : Nat} {y : Str} (hcalm : X.calm = true) (CS : CScope X own caps scope) (hd : caps.Nodup) (hown : own.length = tg.getD 1) (hpk : isPeek ielt = false)
    (hit : PI X target iter (tI cf X.K iit)) (hfs : ∀ x, foldedSetIterable iter X.env x = pure x) (B : BlkOk X cf own caps scope tg target ifs elt icond ielt)
    (hN : X.N.Nodup) (hi : X.N[i]? = some y) (hy : X.env.scope.names.lookup y = some .local) (hsw : swapsWith (.ListComp elt [⟨target, iter, ifs, 0⟩] scope pos) (some (.Name y py)) spos.line X.env = pure true) :
    PS X (.Assign [.Name y py] (.ListComp elt [⟨target, iter, ifs, 0⟩] scope pos) spos) (tAsg (tE cf X.K (.comp tg caps iit icond ielt)) (gName i)) := by
  intro pins s σ H D0 I h
  obtain ⟨G, ρ, p, S, e, k⟩ := h
  obtain ⟨sq, e1, e⟩ := bnd_eq.mp (show bnd (evE cf iit ρ) _ = some p from e)
  obtain ⟨xs, e2, e⟩ := bnd_eq.mp e
  obtain ⟨rs, e3, e⟩ := bnd_eq.mp e
  cases (show some (PyData.list rs) = some p from e)
  have hfr : ∀ x ∈ scope.names, x.2 = .free → ∃ c, X.env.cells.lookup x.1 = some c := fun x hx e => I.ok.has x.1 (CS.frees x hx e)
  rw [exec_Assign_Name_used _ _ _ _ hsw]
  refine wpAny_bind (wpAny_standAt (wpAny_bind ?_))
  show wpAny _ X.A (do let _ ← comprehension (.ListComp elt [⟨target, iter, ifs, 0⟩] scope pos) scope X.env _ (newList []) false (eval iter X.env) (some (assign (.Name y py) X.env))) _ _ s
  refine wpAny_bind (wpAny_mono (wpAny_comprehension_free (use := some (assign (.Name y py) X.env)) (Q := fun _ s' => SP X pins D0 .next s') rfl hfs (closure_of hfr) CS.kind CS.locals ?_) (fun _ s' hq => wpAny_pure (wpAny_pure hq)) fun _ _ e => e)
  refine comp_core (RR := fun acc C => compPost (model X.prog X.w) X.A X.xe (some (assign (.Name y py) X.env)) (fun _ s' => SP X pins D0 .next s') acc C) hcalm CS hd hown hpk hit B I S e1 e2 e3 fun D s3 s' σ' H3 H' G' ys fp I3 I' fp3 hDH x hD' gD' r' => ?_
  have Ib : Inv X pins σ H' s' := inv_back (h'' := s'.heap) I3 I' (.refl ..) fp3
  have hnx : D0.nx (σ.set i (some (.ref D))) H' := k _ _ _ (x.frz hDH gD' hD') (.of rfl ⟨D, ys, rfl, SqL.of upd_same, r'.mono (.new gD' _)⟩)
  show wpAny _ X.A (assign (.Name y py) X.env (.ref D)) _ _ _
  have hCC : s3.heap.objs.size ≠ X.env.locals := fun z => absurd I3.lt (by rw [← z]; exact Nat.lt_irrefl _)
  refine wpAny_assign_Name (store_ok2 Ib hN hi (.inl hy) (v := .ref D) rfl (fun s'' I'' hch => ?_) (.inr hy))
  obtain ⟨m', hn', _⟩ := I'.loc
  obtain ⟨a, hsa, ha⟩ := hch
  have hCa : s3.heap.objs.size ≠ a := by
    rcases ha with z | z
    · rw [z]; exact hCC
    · intro w
      obtain ⟨cv, hcv⟩ := I3.cell y a z
      exact absurd hcv.lt (by rw [← w]; exact Nat.lt_irrefl _)
  refine ⟨m', hn'.sameBut hsa hCa, fun h'' hs'' => ⟨σ.set i (some (.ref D)), H', ?_, hnx⟩⟩
  -- the block's own dict is let go
  refine I''.call' (s' := { s'' with heap := h'' }) (ch := [s3.heap.objs.size]) rfl ⟨fun b o e n hb hx => ?_, fun b o e n hb hx => ?_, fun b o e n hx => n, fun b o e hx => ?_, fun _ _ e => e, fun _ _ _ e => e, fun b ps e => ⟨#[], by rw [e]; simp⟩⟩ (fun b ob e => ?_) I''.bare (fun b hb => ?_)
  · exact (hs''.2 b fun z => hx (by simp [z])).trans e
  · exact ⟨o.slots, (hs''.2 b fun z => hx (by simp [z])).trans e⟩
  · exact ⟨o, (hs''.2 b fun z => hx (by simp [z])).trans e⟩
  · refine (I''.hok b ob e).stay (fun c w' hc q => (hs''.2 c ?_).trans q) (fun _ q => q) fun _ _ q => q
    rintro rfl
    have hfree : H' s3.heap.objs.size = none := I'.free
    rcases hc with rfl | hc
    · rw [hfree] at e; cases e
    · rw [hfree] at hc; cases hc
  · have eb : b = s3.heap.objs.size := by simpa using hb
    subst eb
    refine ⟨.inr (I3.sz), hCC, fun z c ec w => ?_, fun q hq w => ?_⟩
    · obtain ⟨cv, hcv⟩ := I3.cell z c ec
      exact absurd hcv.lt (by rw [w]; exact Nat.lt_irrefl _)
    · exact absurd (Heap.lt_size (I3.pin q hq).1) (by rw [w]; exact Nat.lt_irrefl _)
end
end DD
set_option Elab.async false
set_option linter.all false
set_option maxRecDepth 100000
namespace DD
open PySem PySem.Spec PyProof.Rows L2

/-- the frame's slots, what was there at the def's entry kept -/
structure ST (K : PySem.W.Frag) (G0 H0 G H : Hp) (σ : St) (ρ : Env) : Prop where
  sr : SR K G H σ ρ
  ex : Ext G0 H0 G H
  new : ∀ (i : Nat) (ps : List PV) (a : Addr), ρ[i]? = some (Sl.own ps) → σ[i]? = some (some (V.ref a)) → H0 a = none
theorem ST.ext {K : PySem.W.Frag} {G0 H0 G H G' H' : Hp} {σ : St} {ρ : Env} (T : ST K G0 H0 G H σ ρ) (x : Ext G H G' H') : ST K G0 H0 G' H' σ ρ := ⟨T.sr.ext x, T.ex.trans x, T.new⟩
theorem ST.setVal {K : PySem.W.Frag} {G0 H0 G H : Hp} {σ : St} {ρ : Env} (T : ST K G0 H0 G H σ ρ) {i : Nat} {p : PV} {v : V} (r : Rp K G p v) : ST K G0 H0 G H (σ.set i (some v)) (ρ.set i (.val p)) := by
  refine ⟨T.sr.setVal r, T.ex, fun j ps a e1 e2 => ?_⟩
  rw [List.getElem?_set] at e1
  by_cases hij : i = j
  · rw [if_pos hij] at e1
    split at e1 <;> cases e1
  · rw [if_neg hij] at e1
    rw [List.getElem?_set_ne hij] at e2
    exact T.new j ps a e1 e2
/-- a slot takes a new list for its own -/
theorem ST.setOwn {K : PySem.W.Frag} {G0 H0 G H : Hp} {σ : St} {ρ : Env} (T : ST K G0 H0 G H σ ρ) {i : Nat} {ps : List PV} {vs : List V} {l : Addr} (hl : H l = none) (r : RpL K G ps vs) :
    ST K G0 H0 G (L2.upd H l (.lst vs)) (σ.set i (some (.ref l))) (ρ.set i (.own ps)) := by
  have gl := T.sr.sub.fresh hl
  have h0l : H0 l = none := by
    cases q : H0 l with
    | none => rfl
    | some o => have := T.ex.hh l o q; rw [hl] at this; cases this
  have x1 : Ext G H G (L2.upd H l (.lst vs)) := Ext.own T.sr.sub hl _
  have T1 := T.ext x1
  have lt : ∀ (j : Nat) (qs : List PV), ρ[j]? = some (Sl.own qs) → σ[j]? ≠ some (some (V.ref l)) := fun j qs e z => by
    obtain ⟨o, eo, a, ws, rfl, h1, _⟩ := T.sr.at e
    rw [eo] at z; cases z
    rw [hl] at h1; cases h1
  refine ⟨⟨by simpa using T.sr.len, x1.gh, fun j sl o e1 e2 => ?_, fun j k sj sk a hjk e1 e2 o1 o2 e3 e4 => ?_⟩, T1.ex, fun j qs a e1 e2 => ?_⟩
  · rw [List.getElem?_set] at e1 e2
    by_cases hij : i = j
    · rw [if_pos hij] at e1 e2
      split at e1
      · rename_i hlt
        rw [if_pos (by rw [T.sr.len]; exact hlt)] at e2
        cases e1; cases e2
        exact ⟨l, vs, rfl, upd_same, gl, r⟩
      · cases e1
    · rw [if_neg hij] at e1 e2
      exact T1.sr.get j sl o e1 e2
  · rw [List.getElem?_set] at e1 e2 e3 e4
    by_cases hij : i = j
    · have hik : i ≠ k := fun z => hjk (hij.symm.trans z)
      rw [if_neg hik] at e2 e4
      rw [if_pos hij] at e3
      split at e3
      · cases e3
        cases sk with
        | own qs => exact lt k qs e2 e4
        | un => cases o2
        | val p => cases o2
      · cases e3
    · rw [if_neg hij] at e1 e3
      by_cases hik : i = k
      · rw [if_pos hik] at e4
        split at e4
        · cases e4
          cases sj with
          | own qs => exact lt j qs e1 e3
          | un => cases o1
          | val p => cases o1
        · cases e4
      · rw [if_neg hik] at e2 e4
        exact T.sr.apart j k sj sk a hjk e1 e2 o1 o2 e3 e4
  · rw [List.getElem?_set] at e1 e2
    by_cases hij : i = j
    · rw [if_pos hij] at e2
      split at e2
      · cases e2; exact h0l
      · cases e2
    · rw [if_neg hij] at e1 e2
      exact T.new j qs a e1 e2
/-- a slot's own list has grown -/
theorem ST.grow {K : PySem.W.Frag} {G0 H0 G H : Hp} {σ : St} {ρ : Env} (T : ST K G0 H0 G H σ ρ) {i : Nat} {ps qs : List PV} {vs ws : List V} {l : Addr} (ei : ρ[i]? = some (Sl.own ps)) (es : σ[i]? = some (some (V.ref l))) (hl : H l = some (.lst vs))
    (gl : G l = none) (r : RpL K G qs ws) : ST K G0 H0 G (L2.upd H l (.lst ws)) σ (ρ.set i (.own qs)) := by
  have hi : i < ρ.length := (List.getElem?_eq_some_iff.mp ei).1
  have old : ∀ (j : Nat) (sl : Sl), (ρ.set i (.own qs))[j]? = some sl → (i = j ∧ sl = .own qs) ∨ (i ≠ j ∧ ρ[j]? = some sl) := fun j sl e => by
    rw [List.getElem?_set] at e
    by_cases hij : i = j
    · rw [if_pos hij, if_pos hi] at e
      cases e
      exact .inl ⟨hij, rfl⟩
    · rw [if_neg hij] at e; exact .inr ⟨hij, e⟩
  refine ⟨⟨by simpa using T.sr.len, fun b u q => by rw [upd_ne (ne_of_none q gl)]; exact T.sr.sub b u q, fun j sl o e1 e2 => ?_, fun j k sj sk a hjk e1 e2 o1 o2 e3 e4 => ?_⟩, T.ex.mut (T.new i ps l ei es) gl _, fun j qs' a e1 e2 => ?_⟩
  · rcases old j sl e1 with ⟨rfl, rfl⟩ | ⟨hij, e1'⟩
    · rw [es] at e2
      cases e2
      exact ⟨l, ws, rfl, upd_same, gl, r⟩
    · have h := T.sr.get j sl o e1' e2
      cases sl with
      | un => exact h
      | val p => exact h
      | own ts =>
        obtain ⟨b, us, rfl, h1, h2, rr⟩ := h
        refine ⟨b, us, rfl, ?_, h2, rr⟩
        rw [upd_ne]
        · exact h1
        · rintro rfl
          exact T.sr.apart i j (.own ps) (.own ts) b hij ei e1' rfl rfl es e2
  · have back : ∀ (m : Nat) (sl : Sl), (ρ.set i (.own qs))[m]? = some sl → isOwn sl = true → ∃ sl', ρ[m]? = some sl' ∧ isOwn sl' = true := fun m sl e h => by
      rcases old m sl e with ⟨rfl, rfl⟩ | ⟨_, e'⟩
      · exact ⟨_, ei, rfl⟩
      · exact ⟨sl, e', h⟩
    obtain ⟨s1, f1, g1⟩ := back j sj e1 o1
    obtain ⟨s2, f2, g2⟩ := back k sk e2 o2
    exact T.sr.apart j k s1 s2 a hjk f1 f2 g1 g2 e3 e4
  · rcases old j _ e1 with ⟨rfl, _⟩ | ⟨_, e1'⟩
    · exact T.new i ps a ei e2
    · exact T.new j qs' a e1' e2
/-- a slot's own list is given to all -/
theorem ST.frz {K : PySem.W.Frag} {G0 H0 G H : Hp} {σ : St} {ρ : Env} (T : ST K G0 H0 G H σ ρ) {i : Nat} {ps : List PV} (ei : ρ[i]? = some (Sl.own ps)) : ∃ G', ST K G0 H0 G' H σ (ρ.set i (.val (.list ps))) := by
  obtain ⟨o, es, l, vs, rfl, hl, gl, r⟩ := T.sr.at ei
  have hi : i < ρ.length := (List.getElem?_eq_some_iff.mp ei).1
  have sg : Sub G (L2.upd G l (.lst vs)) := .new gl _
  have old : ∀ (j : Nat) (sl : Sl), (ρ.set i (.val (.list ps)))[j]? = some sl → (i = j ∧ sl = .val (.list ps)) ∨ (i ≠ j ∧ ρ[j]? = some sl) := fun j sl e => by
    rw [List.getElem?_set] at e
    by_cases hij : i = j
    · rw [if_pos hij, if_pos hi] at e
      cases e
      exact .inl ⟨hij, rfl⟩
    · rw [if_neg hij] at e; exact .inr ⟨hij, e⟩
  have x1 := T.ex.frz (T.new i ps l ei es) gl hl
  refine ⟨L2.upd G l (.lst vs), ⟨by simpa using T.sr.len, x1.gh, fun j sl o e1 e2 => ?_, fun j k sj sk a hjk e1 e2 o1 o2 e3 e4 => ?_⟩, x1, fun j qs' a e1 e2 => ?_⟩
  · rcases old j sl e1 with ⟨rfl, rfl⟩ | ⟨hij, e1'⟩
    · rw [es] at e2
      cases e2
      exact ⟨_, rfl, l, vs, rfl, SqL.of upd_same, r.mono sg⟩
    · have h := T.sr.get j sl o e1' e2
      cases sl with
      | un => exact h
      | val p => obtain ⟨v, e, rr⟩ := h; exact ⟨v, e, rr.mono sg⟩
      | own ts =>
        obtain ⟨b, us, rfl, h1, h2, rr⟩ := h
        refine ⟨b, us, rfl, h1, ?_, rr.mono sg⟩
        rw [upd_ne]
        · exact h2
        · rintro rfl
          exact T.sr.apart i j (.own ps) (.own ts) b hij ei e1' rfl rfl es e2
  · have back : ∀ (m : Nat) (sl : Sl), (ρ.set i (.val (.list ps)))[m]? = some sl → isOwn sl = true → ρ[m]? = some sl := fun m sl e h => by
      rcases old m sl e with ⟨rfl, rfl⟩ | ⟨_, e'⟩
      · cases h
      · exact e'
    exact T.sr.apart j k sj sk a hjk (back j sj e1 o1) (back k sk e2 o2) o1 o2 e3 e4
  · rcases old j _ e1 with ⟨rfl, z⟩ | ⟨_, e1'⟩
    · cases z
    · exact T.new j qs' a e1' e2

/-- what is wanted behind a statement -/
def Post (K : PySem.W.Frag) (D : Ends) (G0 H0 : Hp) : Out → Prop
  | .nx ρ => ∀ σ G H, ST K G0 H0 G H σ ρ → D.nx σ H
  | .bk ρ => ∀ σ G H, ST K G0 H0 G H σ ρ → D.bk σ H
  | .ct ρ => ∀ σ G H, ST K G0 H0 G H σ ρ → D.ct σ H
  | .rt p => ∀ v G H, Ext G0 H0 G H → Rp K G p v → D.rt v H
def tS (cf : CF) (K : PySem.W.Frag) (is : DD.S) : TS := fun D σ H => ∃ G0 H0 G ρ o, ST K G0 H0 G H σ ρ ∧ evS cf is ρ = some o ∧ Post K D G0 H0 o

section
variable {X : Cx} {cf : CF}
theorem _root_.L2.PS.weak {st : Stmt} {t t' : TS} (h : PS X st t) (w : ∀ D σ H, t' D σ H → t D σ H) : PS X st t' := fun pins s σ H D I q => h pins s σ H D I (w D σ H q)
theorem _root_.L2.PSs.weak {st : List Stmt} {t t' : TS} (h : PSs X st t) (w : ∀ D σ H, t' D σ H → t D σ H) : PSs X st t' := fun pins s σ H D I q => h pins s σ H D I (w D σ H q)
theorem ss_nil : PSs X [] (tS cf X.K .nx) := pss_nil.weak fun D σ H ⟨G0, H0, G, ρ, o, T, e, k⟩ => by
  cases (show some (Out.nx ρ) = some o from e)
  exact k σ G H T
theorem seqO_inv {x : Option Out} {f : Env → Option Out} {o : Out} (h : seqO x f = some o) : (∃ ρ, x = some (.nx ρ) ∧ f ρ = some o) ∨ (x = some o ∧ ∀ ρ, o ≠ .nx ρ) := by
  cases x with
  | none => cases h
  | some a =>
    cases a with
    | nx ρ => exact .inl ⟨ρ, rfl, h⟩
    | rt p => cases h; exact .inr ⟨rfl, fun _ z => nomatch z⟩
    | bk p => cases h; exact .inr ⟨rfl, fun _ z => nomatch z⟩
    | ct p => cases h; exact .inr ⟨rfl, fun _ z => nomatch z⟩
theorem ss_cons {a b : DD.S} {st : Stmt} {rest : List Stmt} (ha : PS X st (tS cf X.K a)) (hb : PSs X rest (tS cf X.K b)) : PSs X (st :: rest) (tS cf X.K (.seq a b)) :=
  (pss_cons ha hb).weak fun D σ H ⟨G0, H0, G, ρ, o, T, e, k⟩ => by
    rcases seqO_inv (show seqO (evS cf a ρ) (fun ρ1 => evS cf b ρ1) = some o from e) with ⟨ρ1, e1, e2⟩ | ⟨e1, hne⟩
    · exact ⟨G0, H0, G, ρ, .nx ρ1, T, e1, fun σ' G' H' T' => ⟨G0, H0, G', ρ1, o, T', e2, k⟩⟩
    · refine ⟨G0, H0, G, ρ, o, T, e1, ?_⟩
      cases o with
      | nx ρ' => exact absurd rfl (hne ρ')
      | rt p => exact k
      | bk ρ' => exact k
      | ct ρ' => exact k
theorem ss_one {a : DD.S} {st : Stmt} (ha : PS X st (tS cf X.K a)) : PSs X [st] (tS cf X.K a) := pss_one ha
theorem ss_frz {i : Nat} {b : DD.S} {sts : List Stmt} (hb : PSs X sts (tS cf X.K b)) : PSs X sts (tS cf X.K (.seq (.frz i) b)) :=
  hb.weak fun D σ H ⟨G0, H0, G, ρ, o, T, e, k⟩ => by
    rcases seqO_inv (show seqO (bnd ρ[i]? (frzF i ρ)) (fun ρ1 => evS cf b ρ1) = some o from e) with ⟨ρ1, e1, e2⟩ | ⟨e1, hne⟩
    · obtain ⟨sl, e3, e4⟩ := bnd_eq.mp e1
      cases sl with
      | own ps =>
        cases (show some (Out.nx (ρ.set i (.val (.list ps)))) = some (.nx ρ1) from e4)
        obtain ⟨G', T'⟩ := T.frz e3
        exact ⟨G0, H0, G', _, o, T', e2, k⟩
      | un => cases (show some (Out.nx ρ) = some (.nx ρ1) from e4); exact ⟨G0, H0, G, ρ, o, T, e2, k⟩
      | val p => cases (show some (Out.nx ρ) = some (.nx ρ1) from e4); exact ⟨G0, H0, G, ρ, o, T, e2, k⟩
    · obtain ⟨sl, e3, e4⟩ := bnd_eq.mp e1
      cases sl with
      | own ps => cases (show some (Out.nx (ρ.set i (.val (.list ps)))) = some o from e4); exact absurd rfl (hne _)
      | un => cases (show some (Out.nx ρ) = some o from e4); exact absurd rfl (hne _)
      | val p => cases (show some (Out.nx ρ) = some o from e4); exact absurd rfl (hne _)
theorem asg_w {i : Nat} {ie : E} (hk : isPeek ie = false) : ∀ D σ H, tS cf X.K (.set i ie) D σ H → tAsg (tE cf X.K ie) (gName i) D σ H := fun D σ H ⟨G0, H0, G, ρ, o, T, e, k⟩ => by
  obtain ⟨p, e1, e2⟩ := bnd_eq.mp (show bnd (evE cf ie ρ) (fun p => some (Out.nx (ρ.set i (.val p)))) = some o from e)
  cases e2
  exact ⟨G, ρ, p, T.sr, e1, fun v G' H' x r => k _ G' H' ((T.ext x).setVal (r.rp hk))⟩
theorem st_set {i : Nat} {x : Str} {e : Expr} {ie : E} {pos pos' : Pos} (hN : X.N.Nodup) (hi : X.N[i]? = some x) (hx : Loc X.env.scope x) (hf : X.fn x = true ∨ X.env.scope.names.lookup x = some .local) (he : PE X e (tE cf X.K ie)) (hk : isPeek ie = false)
    (hs : swapsWith e (some (.Name x pos')) pos.line X.env = pure false) : PS X (.Assign [.Name x pos'] e pos) (tS cf X.K (.set i ie)) := (ps_set hN hi hx he hs hf).weak (asg_w hk)
theorem st_own {i : Nat} {x : Str} {es : List Expr} {a : E} {n : Nat} {pos pos' lpos : Pos} (hN : X.N.Nodup) (hi : X.N[i]? = some x) (hx : Loc X.env.scope x) (hf : X.fn x = true ∨ X.env.scope.names.lookup x = some .local) (h : PA X es (tA cf X.K a)) (hn : argN a = some n) (hs : n ≤ 1000) :
    PS X (.Assign [.Name x pos'] (.List es lpos) pos) (tS cf X.K (.own i (.lst a))) := by
  refine (ps_set hN hi hx (pe_lst h) rfl hf).weak fun D σ H ⟨G0, H0, G, ρ, o, T, e, k⟩ => ?_
  obtain ⟨p, e1, e2⟩ := bnd_eq.mp (show bnd (evE cf (.lst a) ρ) (ownF i ρ) = some o from e)
  obtain ⟨r, e3, e4⟩ := bnd_eq.mp (show bnd (evE cf a ρ) lstF = some p from e1)
  obtain ⟨ps, rfl, hl⟩ := args_len a n ρ r hn e3
  cases (show some (PyData.list ps) = some p from e4)
  cases (show some (Out.nx (ρ.set i (.own ps))) = some o from e2)
  refine ⟨G, ρ, ps, T.sr, e3, fun vs G1 H1 x1 r1 => ⟨?_, fun l hf => ?_⟩⟩
  · have := r1.length; rw [line_eq]; omega
  · exact k _ G1 _ ((T.ext x1).setOwn hf r1)
theorem st_ret {e : Expr} {ie : E} {pos : Pos} (he : PE X e (tE cf X.K ie)) (hk : isPeek ie = false) : PS X (.Return (some e) pos) (tS cf X.K (.ret ie)) :=
  (ps_ret he).weak fun D σ H ⟨G0, H0, G, ρ, o, T, e, k⟩ => by
    obtain ⟨p, e1, e2⟩ := bnd_eq.mp (show bnd (evE cf ie ρ) (fun p => some (Out.rt p)) = some o from e)
    cases e2
    exact ⟨G, ρ, p, T.sr, e1, fun v G' H' x r => k v G' H' (T.ex.trans x) (r.rp hk)⟩
theorem st_ife {c : Expr} {a b : List Stmt} {ic : E} {ia ib : DD.S} {pos : Pos} (hc : PT X c (tT cf X.K ic)) (ha : PSs X a (tS cf X.K ia)) (hb : PSs X b (tS cf X.K ib)) : PS X (.If c a b pos) (tS cf X.K (.ife ic ia ib)) :=
  (ps_if hc ha hb).weak fun D σ H ⟨G0, H0, G, ρ, o, T, e, k⟩ => by
    obtain ⟨x, e1, e2⟩ := bnd_eq.mp (show bnd (evE cf ic ρ) (fun x => bnd (truthF x) fun t => if t then evS cf ia ρ else evS cf ib ρ) = some o from e)
    obtain ⟨t, e3, e4⟩ := bnd_eq.mp e2
    refine ⟨G, ρ, x, t, T.sr, e1, e3, fun G' H' xx => ?_⟩
    cases t with
    | true => exact iteT ⟨G0, H0, G', ρ, o, T.ext xx, e4, k⟩
    | false => exact iteF ⟨G0, H0, G', ρ, o, T.ext xx, e4, k⟩
theorem st_brk {pos : Pos} : PS X (.Break pos) (tS cf X.K .brk) := ps_break.weak fun D σ H ⟨G0, H0, G, ρ, o, T, e, k⟩ => by
  cases (show some (Out.bk ρ) = some o from e)
  exact k σ G H T
theorem st_cnt {pos : Pos} : PS X (.Continue pos) (tS cf X.K .cnt) := ps_continue.weak fun D σ H ⟨G0, H0, G, ρ, o, T, e, k⟩ => by
  cases (show some (Out.ct ρ) = some o from e)
  exact k σ G H T
theorem st_pass {pos : Pos} : PS X (.Pass pos) (tS cf X.K .nx) := ps_pass.weak fun D σ H ⟨G0, H0, G, ρ, o, T, e, k⟩ => by
  cases (show some (Out.nx ρ) = some o from e)
  exact k σ G H T
end
end DD
set_option Elab.async false
set_option linter.all false
set_option maxRecDepth 100000
namespace DD
open PySem PySem.Spec PyProof.Rows L2

/-! ### targets -/
def gMany : List Nat → TGs
  | [] => gNil
  | i :: is => gCons (gName i) (gMany is)
def gS (K : PySem.W.Frag) : Tg → TG
  | .one i => gName i
  | .many is => gTup K is.length (gMany is)
theorem many_ok {K : PySem.W.Frag} {G0 H0 G H : Hp} {Q : St → Hp → Prop} : ∀ (is : List Nat) (ps : List PV) (vs : List V) (σ : St) (ρ ρ' : Env), ST K G0 H0 G H σ ρ → RpL K G ps vs → setMany is ps ρ = some ρ' → (∀ σ', ST K G0 H0 G H σ' ρ' → Q σ' H) → gMany is vs σ H Q
  | [], [], _, σ, ρ, ρ', T, r, e, k => by
    cases (show _ = [] from r)
    cases (show some ρ = some ρ' from e)
    exact ⟨rfl, k σ T⟩
  | i :: is, p :: ps, _, σ, ρ, ρ', T, r, e, k => by
    obtain ⟨v, w, rfl, r1, r2⟩ := (show ∃ v r, _ = v :: r ∧ Rp K G p v ∧ RpL K G ps r from r)
    exact ⟨v, w, rfl, many_ok is ps w _ _ ρ' (T.setVal r1) r2 e k⟩
  | [], _ :: _, _, _, _, _, _, _, e, _ => by cases e
  | _ :: _, [], _, _, _, _, _, _, e, _ => by cases e
theorem setMany_len : ∀ (is : List Nat) (ps : List PV) (ρ ρ' : Env), setMany is ps ρ = some ρ' → is.length = ps.length
  | [], [], _, _, _ => rfl
  | _ :: is, _ :: ps, _, ρ', e => by simp [setMany_len is ps _ ρ' e]
  | [], _ :: _, _, _, e => by cases e
  | _ :: _, [], _, _, e => by cases e
theorem bindS_ok {K : PySem.W.Frag} {G0 H0 G H : Hp} {Q : St → Hp → Prop} {t : Tg} {p : PV} {v : V} {σ : St} {ρ ρ' : Env} (T : ST K G0 H0 G H σ ρ) (r : Rp K G p v) (e : bindS t p ρ = some ρ') (k : ∀ σ', ST K G0 H0 G H σ' ρ' → Q σ' H) : gS K t v σ H Q := by
  cases t with
  | one i =>
    cases (show some (ρ.set i (.val p)) = some ρ' from e)
    exact k _ (T.setVal r)
  | many is =>
    cases p with
    | tuple xs =>
      obtain ⟨a, vs, rfl, q, rr⟩ := (show ∃ a vs, v = V.ref a ∧ SqT K G a vs ∧ RpL K G xs vs from r)
      have hl := setMany_len is xs ρ ρ' e
      exact ⟨a, vs, rfl, T.sr.sub.sqT q, by rw [← rr.length]; exact hl.symm, many_ok is xs vs σ ρ ρ' T rr e k⟩
    | _ => cases (show none = some ρ' from e)

/-! ### a new start within a def: what is known now, and what was there at the entry -/
def midH (G H0 H : Hp) : Hp := fun a => if (G a).isSome || (H0 a).isSome then H a else none
theorem midH_some {G H0 H : Hp} {a : Addr} {o : HO} (h : midH G H0 H a = some o) : H a = some o ∧ ((G a).isSome = true ∨ (H0 a).isSome = true) := by
  unfold midH at h
  split at h
  · rename_i q
    exact ⟨h, by simpa using q⟩
  · cases h
theorem midH_of {G H0 H : Hp} {a : Addr} (h : (G a).isSome = true ∨ (H0 a).isSome = true) : midH G H0 H a = H a := by
  unfold midH
  rw [if_pos (by simpa using h)]
theorem ST.mid {K : PySem.W.Frag} {G0 H0 G H : Hp} {σ : St} {ρ : Env} (T : ST K G0 H0 G H σ ρ) : ST K G (midH G H0 H) G H σ ρ := by
  refine ⟨T.sr, ⟨fun a o h => (midH_some h).1, .refl _, T.sr.sub, fun _ _ _ => rfl⟩, fun i ps a e1 e2 => ?_⟩
  obtain ⟨o, eo, b, vs, rfl, h1, h2, _⟩ := T.sr.at e1
  rw [eo] at e2
  have eb : b = a := by injection e2 with e2; injection e2 with e2; injection e2
  subst eb
  have h3 := T.new i ps b e1 eo
  unfold midH
  rw [h2, h3]; rfl
theorem ST.back {K : PySem.W.Frag} {G0 H0 G H G2 H2 : Hp} {σ σ2 : St} {ρ ρ2 : Env} (T : ST K G0 H0 G H σ ρ) (T2 : ST K G (midH G H0 H) G2 H2 σ2 ρ2) : ST K G0 H0 G2 H2 σ2 ρ2 ∧ Sub G G2 := by
  have inM : ∀ a o, H0 a = some o → midH G H0 H a = some o := fun a o h => by rw [midH_of (.inr (by rw [h]; rfl))]; exact T.ex.hh a o h
  refine ⟨⟨T2.sr, ⟨fun a o h => T2.ex.hh a o (inM a o h), T.ex.gg.trans T2.ex.gg, T2.ex.gh, fun a o h => (T2.ex.old a o (inM a o h)).trans (T.ex.old a o h)⟩, fun i ps a e1 e2 => ?_⟩, T2.ex.gg⟩
  have := T2.new i ps a e1 e2
  cases q : H0 a with
  | none => rfl
  | some o => rw [inM a o q] at this; cases this
theorem Ext.back {K : PySem.W.Frag} {G0 H0 G H G2 H2 : Hp} {σ : St} {ρ : Env} (T : ST K G0 H0 G H σ ρ) (x : Ext G (midH G H0 H) G2 H2) : Ext G0 H0 G2 H2 := by
  have inM : ∀ a o, H0 a = some o → midH G H0 H a = some o := fun a o h => by rw [midH_of (.inr (by rw [h]; rfl))]; exact T.ex.hh a o h
  exact ⟨fun a o h => x.hh a o (inM a o h), T.ex.gg.trans x.gg, x.gh, fun a o h => (x.old a o (inM a o h)).trans (T.ex.old a o h)⟩

section
variable {X : Cx} {cf : CF}
/-! ### for -/
theorem turnO_inv {x : Option Out} {f : Env → Option Out} {o : Out} (h : turnO x f = some o) :
    (∃ ρ, (x = some (.nx ρ) ∨ x = some (.ct ρ)) ∧ f ρ = some o) ∨ (∃ ρ, x = some (.bk ρ) ∧ o = .nx ρ) ∨ (∃ p, x = some (.rt p) ∧ o = .rt p) := by
  cases x with
  | none => cases h
  | some a =>
    cases a with
    | nx ρ => exact .inl ⟨ρ, .inl rfl, h⟩
    | ct ρ => exact .inl ⟨ρ, .inr rfl, h⟩
    | bk ρ => cases h; exact .inr (.inl ⟨ρ, rfl, rfl⟩)
    | rt p => cases h; exact .inr (.inr ⟨p, rfl, rfl⟩)
theorem st_loop {t : Tg} {iit : E} {ib : DD.S} {tg iter : Expr} {body : List Stmt} {pos : Pos} (hxe : X.xe = fun _ _ => False) (hc : X.calm = true) (hit : PI X tg iter (tI cf X.K iit)) (hg : PG X tg (gS X.K t)) (hb : PSs X body (tS cf X.K ib))
    (hfs : ∀ x, foldedSetIterable iter X.env x = pure x) : PS X (.For tg iter body [] pos) (tS cf X.K (.loop t iit ib)) := by
  have hp : PassesOwn (model X.prog X.w) X.A X.env X.xe := by rw [hxe]; exact PassesOwn.never
  refine (ps_for hp hc hit hg hb hfs).weak fun D σ H ⟨G0, H0, G, ρ, o, T, e, k⟩ => ?_
  obtain ⟨sq, e1, e⟩ := bnd_eq.mp (show bnd (evE cf iit ρ) (fun s => bnd (seqOf s) fun xs => loopF t (evS cf ib) xs ρ) = some o from e)
  obtain ⟨xs, e2, e3⟩ := bnd_eq.mp e
  refine ⟨G, ρ, sq, xs, T.sr, e1, e2, fun J G1 H1 x1 wk => ?_⟩
  refine ⟨fun i m σ' H' => m = xs.length - i ∧ i ≤ xs.length ∧ ∃ G' ρ', ST X.K G0 H0 G' H' σ' ρ' ∧ Sub G1 G' ∧ loopF t (evS cf ib) (xs.drop i) ρ' = some o, ⟨xs.length, by simp, Nat.zero_le _, G1, ρ, T.ext x1, .refl _, by simpa using e3⟩, ?_⟩
  rintro i m σ' H' ⟨rfl, hi, G', ρ', T', sg, el⟩
  by_cases hlt : i < xs.length
  · have hx : xs.drop i = xs[i] :: xs.drop (i + 1) := List.drop_eq_getElem_cons hlt
    rw [hx] at el
    unfold loopF at el
    obtain ⟨ρ1, eb, et⟩ := bnd_eq.mp el
    refine .inr ⟨wk.go i H' (sg.trans T'.sr.sub) hlt, fun σ2 H2 => i + 1 ≤ xs.length ∧ ∃ G2 ρ2, ST X.K G0 H0 G2 H2 σ2 ρ2 ∧ Sub G1 G2 ∧ loopF t (evS cf ib) (xs.drop (i + 1)) ρ2 = some o, ?_, fun x H2 y => ?_⟩
    · rintro σ2 H2 ⟨h1, h2⟩
      exact ⟨xs.length - (i + 1), by omega, rfl, h1, h2⟩
    · obtain ⟨rfl, p, ep, rp⟩ := wk.yld i H' x H2 (sg.trans T'.sr.sub) hlt y
      have ep' : xs[i] = p := by rw [List.getElem?_eq_getElem hlt] at ep; exact Option.some.inj ep
      subst ep'
      -- the entry stays; what was there at this loop's start stays frozen: keep G1 by the entry of the turn
      refine bindS_ok T' (rp.mono sg) eb fun σ3 T3 => ?_
      have go : ∀ {ρ2 : Env}, loopF t (evS cf ib) (xs.drop (i + 1)) ρ2 = some o → ∀ σ4 G4 H4, ST X.K G' (midH G' H0 H2) G4 H4 σ4 ρ2 → i + 1 ≤ xs.length ∧ ∃ G2 ρ2, ST X.K G0 H0 G2 H4 σ4 ρ2 ∧ Sub G1 G2 ∧ loopF t (evS cf ib) (xs.drop (i + 1)) ρ2 = some o := fun {ρ2} e σ4 G4 H4 T4 => by
        obtain ⟨T5, s5⟩ := T3.back T4
        exact ⟨hlt, G4, ρ2, T5, sg.trans s5, e⟩
      rcases turnO_inv et with ⟨ρ2, e4 | e4, e5⟩ | ⟨ρ2, e4, rfl⟩ | ⟨p, e4, rfl⟩
      · exact ⟨G', midH G' H0 H2, G', ρ1, _, T3.mid, e4, go e5⟩
      · exact ⟨G', midH G' H0 H2, G', ρ1, _, T3.mid, e4, go e5⟩
      · exact ⟨G', midH G' H0 H2, G', ρ1, _, T3.mid, e4, fun σ4 G4 H4 T4 => k σ4 G4 H4 (T3.back T4).1⟩
      · exact ⟨G', midH G' H0 H2, G', ρ1, _, T3.mid, e4, fun v G4 H4 x4 r4 => k v G4 H4 (Ext.back T3 x4) r4⟩
  · have hie : i = xs.length := by omega
    subst hie
    rw [List.drop_length] at el
    cases (show some (Out.nx ρ') = some o from el)
    exact .inl ⟨wk.stop _ H' (sg.trans T'.sr.sub) (Nat.le_refl _), k σ' G' H' T'⟩
/-! ### x.append(e) -/
theorem st_app {i : Nat} {x : Str} {e : Expr} {ie : E} {pos apos cpos npos : Pos} (hi : X.N[i]? = some x) (hv : Vis X.env.scope x) (hd : (x == ("__debug__" : Str)) = false) (hcd : (x == ("__classdict__" : Str)) = false)
    (he : PE X e (tE cf X.K ie)) (hk : isPeek ie = false) (hs : plainE e = true) (hline : (apos.endLine == cpos.line) = true) :
    PS X (.Expr (.Call (.Attribute (.Name x npos) "append" apos) [e] [] cpos) pos) (tS cf X.K (.app i ie)) := by
  have hst := star_of hs [] X.env
  have hfew : ((backTo cpos (starEach [e] X.env)).all (fun x => !x.1) && (backToKw cpos (keywordEach [] X.env)).all (fun x => x.1.isSome)
      && decide ([e].length + ([] : List Keyword).length + (if ([] : List Keyword).isEmpty then 0 else 1) < 30)) = true := by
    rw [hst]; rfl
  refine (ps_expr (pe_bm (X := X) (o := .Name x npos) PySem.F.plainAttrs_list PySem.F.slot_list_append PySem.F.type_list_append mt_append (pe_var hi hv hd hcd) (pa_cons he pa_nil hst) rfl hfew hline hst rfl) rfl).weak fun D σ H ⟨G0, H0, G, ρ, o, T, e, k⟩ => ?_
  obtain ⟨p, e1, e2⟩ := bnd_eq.mp (show bnd (evE cf ie ρ) (fun p => bnd ρ[i]? (appF i ρ p)) = some o from e)
  obtain ⟨sl, e3, e4⟩ := bnd_eq.mp e2
  cases sl with
  | own ps =>
    have e4' : (if ps.length < 1000000 then some (Out.nx (ρ.set i (.own (ps ++ [p])))) else none) = some o := e4
    by_cases hl : ps.length < 1000000
    · rw [if_pos hl] at e4'
      cases e4'
      obtain ⟨o', eo, l, vs, rfl, h1, h2, r⟩ := T.sr.at e3
      refine ⟨.ref l, eo, .inl ⟨rfl, vs, SqL.of h1⟩, G, ρ, p, T.sr, e1, fun v G1 H1 x1 r1 => ?_⟩
      have h1' := x1.hh _ _ h1
      have g1' : G1 l = none := (x1.old _ _ h1).trans h2
      refine ⟨l, vs, v, rfl, rfl, h1', by have := r.length; rw [line_eq]; omega, ?_⟩
      exact k _ G1 _ ((T.ext x1).grow e3 eo h1' g1' ((r.mono x1.gg).append (.one (r1.rp hk))))
    · rw [if_neg hl] at e4'; cases e4'
  | un => cases (show none = some o from e4)
  | val q => cases (show none = some o from e4)
end
end DD
set_option Elab.async false
set_option linter.all false
set_option maxRecDepth 100000
namespace DD
open PySem PySem.Spec PyProof.Rows L2

theorem glued_eq (sep : Str) : ∀ (x : Str) (xs : List Str), (⟨xs.foldl (fun acc p => acc ++ sep.cps ++ p.cps) x.cps⟩ : Str) = joinS sep (x :: xs)
  | x, [] => rfl
  | x, y :: r => by
    rw [joinS]
    have h := glued_eq sep y r
    have go : ∀ (l : List Str) (a b : Array Nat), l.foldl (fun acc p => acc ++ sep.cps ++ p.cps) (a ++ b) = a ++ l.foldl (fun acc p => acc ++ sep.cps ++ p.cps) b := by
      intro l
      induction l with
      | nil => intro a b; rfl
      | cons z l ih => intro a b; rw [List.foldl_cons, List.foldl_cons, Array.append_assoc, Array.append_assoc, ih, Array.append_assoc]
    rw [← h]
    show (⟨(y :: r).foldl (fun acc p => acc ++ sep.cps ++ p.cps) x.cps⟩ : Str) = ⟨x.cps ++ sep.cps ++ r.foldl (fun acc p => acc ++ sep.cps ++ p.cps) y.cps⟩
    rw [List.foldl_cons, go]
theorem join_eq (sep : Str) (xs : List Str) : Txt.join sep xs = joinS sep xs := by
  cases xs with
  | nil => rfl
  | cons x xs => exact glued_eq sep x xs
theorem joinS_ok {sep : Str} (hs : PyData.strOk sep = true) : ∀ (xs : List Str), (∀ x ∈ xs, PyData.strOk x = true) → PyData.strOk (joinS sep xs) = true
  | [], _ => by simp [joinS, PyData.strOk]
  | [x], h => h x List.mem_cons_self
  | x :: y :: r, h => by
    rw [joinS]
    exact strOk_append (strOk_append (h x List.mem_cons_self) hs) (joinS_ok hs (y :: r) fun z hz => h z (List.mem_cons_of_mem _ hz))
theorem joinS_len (sep : Str) : ∀ (xs : List Str), (joinS sep xs).length ≤ (xs.map Str.length).sum + xs.length * sep.length
  | [] => Nat.zero_le _
  | [x] => by simp [joinS]
  | x :: y :: r => by
    have h := joinS_len sep (y :: r)
    rw [joinS, length_append, length_append]
    simp only [List.map_cons, List.sum_cons, List.length_cons, Nat.succ_mul] at h ⊢
    omega
theorem strs_rel {K : PySem.W.Frag} {G : Hp} : ∀ {ps : List PV} {vs : List V} {us : List Value} {ys : List Str}, RpL K G ps vs → Vals vs us → strsOf ps = some ys → StrsAre us ys ∧ ∀ y ∈ ys, PyData.strOk y = true
  | [], _, _, _, h, r, e => by
    cases (show _ = [] from h)
    cases r
    cases (show some [] = some _ from e)
    exact ⟨.nil, fun _ h => by cases h⟩
  | p :: ps, _, _, ys, h, r, e => by
    obtain ⟨v, w, rfl, h1, h2⟩ := (show ∃ v r, _ = v :: r ∧ Rp K G p v ∧ RpL K G ps r from h)
    cases r with
    | cons r1 r2 =>
      cases p with
      | str x =>
        obtain ⟨q, e1, e2⟩ := bnd_eq.mp (show bnd (strsOf ps) (fun q => some (x :: q)) = some ys from e)
        cases e2
        obtain ⟨i1, i2⟩ := strs_rel h2 r2 e1
        obtain ⟨rfl, so, _⟩ := (show v = .str x ∧ PyData.strOk x = true ∧ x.length ≤ 16777216 from h1)
        obtain ⟨t, rfl⟩ := r1
        refine ⟨.cons x t i1, fun y hy => ?_⟩
        rcases List.mem_cons.mp hy with z | z
        · rw [z]; exact so
        · exact i2 y z
      | _ => simp at e

/-! ### what may stand as an index -/
def ixE : Expr → Bool
  | .Slice .. => false
  | _ => true
theorem plainIx {b : Expr} (h : ixE b = true) : PlainIx b := by
  intro o i
  cases b <;> first | rfl | exact absurd (show false = true from h) Bool.false_ne_true

section
variable {X : Cx} {cf : CF}
theorem s_join : MtR X "str.join" (fun x xs H Q => ∃ y, xs = [y] ∧ rOp2 X.K .join x y H Q) := by
  intro pins s σ H x xs v us Q I rx r h
  obtain ⟨y, rfl, G, p, q, r', sb, hp, hq, e, k⟩ := h
  obtain ⟨u, rfl, ry⟩ := vals1 r
  cases p with
  | str sep =>
    cases q with
    | list ps =>
      obtain ⟨ys, e1, e2⟩ := bnd_eq.mp (show bnd (strsOf ps) (fun xs => if (xs.map Str.length).sum + xs.length * sep.length ≤ 16777216 then some (PyData.str (joinS sep xs)) else none) = some r' from e)
      by_cases hl : (ys.map Str.length).sum + ys.length * sep.length ≤ 16777216
      · rw [if_pos hl] at e2
        cases e2
        obtain ⟨rfl, so, _⟩ := (show x = .str sep ∧ PyData.strOk sep = true ∧ sep.length ≤ 16777216 from hp)
        obtain ⟨a, vs, rfl, q1, r1⟩ := (show ∃ a vs, y = V.ref a ∧ SqL X.K H a vs ∧ RpL X.K G ps vs from hq)
        obtain ⟨t, rfl⟩ := rx
        cases (show u = Value.ref a from ry)
        obtain ⟨its, rv, pl, _⟩ := I.list q1
        obtain ⟨sa, sk⟩ := strs_rel r1 rv e1
        refine join_list pl.isList (by simpa using sa) hl fun t' tk => ⟨.str (Txt.join sep ys), H, I.tok tk, ⟨_, rfl⟩, k _ G H (.refl sb) ?_⟩
        rw [join_eq]
        exact ⟨rfl, joinS_ok so ys sk, Nat.le_trans (joinS_len sep ys) hl⟩
      · rw [if_neg hl] at e2; cases e2
    | _ => simp at e
  | _ => cases q <;> simp at e

theorem snd_ix {ia ib : E} {a b : Expr} {pos : Pos} (ha : PE X a (tE cf X.K ia)) (hb : PE X b (tE cf X.K ib)) (hs : ixE b = true) : Snd X cf (.op2 .ix ia ib) (.Subscript a b pos) :=
  .plain ((pe_ix s_ix ha hb (plainIx hs)).weak op2_w) (fun _ => rfl)

/-! ### slices -/
def tP (cf : CF) (K : PySem.W.Frag) (ie : E) : TO := fun σ H Q => ∃ G ρ p o, SR K G H σ ρ ∧ evE cf ie ρ = some p ∧ partF p = some o ∧ ∀ G' H', Ext G H G' H' → Q o H'
theorem part_none : PO X none (tP cf X.K (.con .none)) := fun pins s σ H Q I ⟨G, ρ, p, o, S, e1, e2, k⟩ => by
  cases (show some PyData.none = some p from e1)
  cases (show some none = some o from e2)
  exact po_none pins s σ H Q I (k G H (.refl S.sub))
theorem part_some {e : Expr} {ie : E} (h : PE X e (tE cf X.K ie)) (hk : isPeek ie = false) : PO X (some e) (tP cf X.K ie) := fun pins s σ H Q I ⟨G, ρ, p, o, S, e1, e2, k⟩ => by
  have w := h pins s σ H (fun v H1 => ∃ G1, Ext G H G1 H1 ∧ Rp X.K G1 p v) I ⟨G, ρ, p, S, e1, fun v G' H' x r => ⟨G', x, r.rp hk⟩⟩
  refine thn w fun u s1 ⟨v, H1, I1, rv, G1, x1, r1⟩ => ?_
  cases p with
  | int i =>
    cases (show some (some i) = some o from e2)
    cases (show v = .int i from r1)
    obtain ⟨t, rfl⟩ := rv
    exact ⟨some i, H1, I1, .int i t, k G1 H1 x1⟩
  | none =>
    cases (show some none = some o from e2)
    cases (show v = .non from r1)
    cases (show u = Value.none from rv)
    exact ⟨none, H1, I1, .none, k G1 H1 x1⟩
  | _ => cases (show none = some o from e2)
theorem snd_sl {ia il ih : E} {a : Expr} {lo hi : Option Expr} {pos p2 : Pos} (ha : PE X a (tE cf X.K ia)) (hl : PO X lo (tP cf X.K il)) (hh : PO X hi (tP cf X.K ih)) : Snd X cf (.sl ia il ih) (.Subscript a (.Slice lo hi none p2) pos) := by
  refine .plain ((pe_slice s_sl ha hl hh).weak fun σ H Q ⟨G, ρ, p, S, e, k⟩ => ?_) (fun _ => rfl)
  obtain ⟨x, e1, e⟩ := bnd_eq.mp (show bnd (evE cf ia ρ) (fun x => bnd (evE cf il ρ) fun l => bnd (evE cf ih ρ) fun h => slF x l h) = some p from e)
  obtain ⟨l, e2, e⟩ := bnd_eq.mp e
  obtain ⟨h, e3, e⟩ := bnd_eq.mp e
  obtain ⟨ol, e4, e⟩ := bnd_eq.mp (show bnd (partF l) (fun l => bnd (partF h) fun h => cutF l h x) = some p from e)
  obtain ⟨oh, e5, e6⟩ := bnd_eq.mp e
  exact ⟨G, ρ, x, S, e1, fun v G1 H1 x1 r1 => ⟨G1, ρ, l, ol, S.ext x1, e2, e4, fun G2 H2 x2 => ⟨G2, ρ, h, oh, (S.ext x1).ext x2, e3, e5, fun G3 H3 x3 =>
    ⟨G3, x, p, x3.gh, ((r1.rk x1.gh).ext x2).ext x3, e6, fun u G4 H4 x4 r4 => k u G4 H4 (x1.trans (x2.trans (x3.trans x4))) (.of rfl r4)⟩⟩⟩⟩

/-! ### calls of Python's own -/
theorem op1_w {o : Op1} {a : E} : ∀ σ H Q, tE cf X.K (.op1 o a) σ H Q → (tE cf X.K a) σ H fun v H1 => rOp1 X.K o v H1 Q := fun σ H Q ⟨G, ρ, p, S, e, k⟩ => by
  obtain ⟨x, e1, e2⟩ := bnd_eq.mp (show bnd (evE cf a ρ) (opF1 o) = some p from e)
  exact ⟨G, ρ, x, S, e1, fun v G1 H1 x1 r1 => ⟨G1, x, p, x1.gh, r1.rk x1.gh, e2, fun u G2 H2 x2 r2 => k u G2 H2 (x1.trans x2) (.of rfl r2)⟩⟩
theorem tE_mono {ie : E} {σ : St} {H : Hp} {Q Q' : VK} (h : tE cf X.K ie σ H Q) (w : ∀ v H', Q v H' → Q' v H') : tE cf X.K ie σ H Q' := by
  obtain ⟨G, ρ, p, S, e, k⟩ := h
  exact ⟨G, ρ, p, S, e, fun v G' H' x r => w v H' (k v G' H' x r)⟩
theorem snd_callB {o : Op1} {ia : E} {a : Expr} {x : Str} {id : String} {p pos : Pos} (hc : CallR X (.builtin id) (rC1 X.K o)) (hg : Gl X x) (hm : X.mg x = none) (hv : bootBuiltins x = some (.builtin id)) (hn : x ≠ "__name__") (hdb : (x == ("__debug__" : Str)) = false)
    (ha : PE X a (tE cf X.K ia)) (hs : plainE a = true) : Snd X cf (.op1 o ia) (.Call (.Name x p) [a] [] pos) := by
  refine .plain ((pe_callB hc hg hm hv (pa_cons ha pa_nil (star_of hs _ _)) hn hdb (star_of hs _ _)).weak fun σ H Q h => ?_) (fun _ => rfl)
  exact tE_mono (op1_w σ H Q h) fun v H' q => ⟨v, rfl, q⟩
theorem snd_callT {o : Op1} {ia : E} {a : Expr} {x : Str} {T : String} {p pos : Pos} (hc : CallR X (.type T) (rC1 X.K o)) (hg : Gl X x) (hm : X.mg x = none) (hv : bootBuiltins x = some (.type T)) (hn : x ≠ "__name__") (hdb : (x == ("__debug__" : Str)) = false)
    (ha : PE X a (tE cf X.K ia)) (hs : plainE a = true) : Snd X cf (.op1 o ia) (.Call (.Name x p) [a] [] pos) := by
  refine .plain ((pe_callTy hc hg hm hv (pa_cons ha pa_nil (star_of hs _ _)) hn hdb (star_of hs _ _)).weak fun σ H Q h => ?_) (fun _ => rfl)
  exact tE_mono (op1_w σ H Q h) fun v H' q => ⟨v, rfl, q⟩
theorem snd_isi {o : Op1} {ia : E} {a : Expr} {x : Str} {T : String} {p p2 pos : Pos} (hc : CallR X (.builtin "isinstance") (rIsi X.K o T)) (hg : Gl X "isinstance") (hm : X.mg "isinstance" = none) (hgT : Gl X x) (hmT : X.mg x = none) (hvT : bootBuiltins x = some (.type T))
    (hn : x ≠ "__name__") (hdb : (x == ("__debug__" : Str)) = false) (ha : PE X a (tE cf X.K ia)) (hs : plainE a = true) : Snd X cf (.op1 o ia) (.Call (.Name "isinstance" p) [a, .Name x p2] [] pos) := by
  refine .plain ((pe_callB hc hg hm boot_isinstance (pa_cons ha (pa_cons (pe_bltn (v := .ty T) hgT hmT hvT rfl hn hdb) pa_nil rfl) (star_of hs _ _)) (by decide) (by decide) (star_of hs _ _)).weak fun σ H Q h => ?_) (fun _ => rfl)
  exact tE_mono (op1_w σ H Q h) fun v H' q => ⟨v, rfl, q⟩
theorem snd_join {ib : E} {sep : Str} {b : Expr} {j : Nat} {p0 apos pos : Pos} (hs0 : PyData.strOk sep = true) (hl0 : sep.length ≤ 16777216) (hb : PE X b (tE cf X.K ib)) (hs : plainE b = true) (hline : (apos.endLine == pos.line) = true) :
    Snd X cf (.op2 .join (.con (.str sep)) ib) (.Call (.Attribute (.Constant (.str sep) j p0) "join" apos) [b] [] pos) := by
  have hst := star_of hs [] X.env
  have hfew : ((backTo pos (starEach [b] X.env)).all (fun x => !x.1) && (backToKw pos (keywordEach [] X.env)).all (fun x => x.1.isSome)
      && decide ([b].length + ([] : List Keyword).length + (if ([] : List Keyword).isEmpty then 0 else 1) < 30)) = true := by
    rw [hst]; rfl
  refine .plain ((pe_bm (X := X) (o := .Constant (.str sep) j p0) PySem.F.plainAttrs_str PySem.F.slot_str_join PySem.F.type_str_join s_join pe_str (pa_cons hb pa_nil hst) rfl hfew hline hst rfl).weak fun σ H Q h => ?_) (fun _ => rfl)
  refine ⟨rfl, ?_⟩
  obtain ⟨G, ρ, p, S, e, k⟩ := h
  obtain ⟨y, e3, e4⟩ := bnd_eq.mp (show bnd (evE cf ib ρ) (fun y => opF2 .join (.str sep) y) = some p from e)
  exact ⟨G, ρ, y, S, e3, fun v G1 H1 x1 r1 => ⟨v, rfl, G1, .str sep, y, p, x1.gh, ⟨rfl, hs0, hl0⟩, r1.rk x1.gh, e4, fun u G3 H3 x3 r3 => k u G3 H3 (x1.trans x3) (.of rfl r3)⟩⟩

/-! ### not, and, or, if -/
theorem snd_not {ia : E} {a : Expr} {pos : Pos} (ha : Snd X cf ia a) : Snd X cf (.not ia) (.UnaryOp .Not a pos) := by
  refine ⟨fun pins s σ H Q I h => ?_, (pt_not ha.pt).weak fun σ H Q ⟨G, ρ, p, b, S, e, et, k⟩ => ?_⟩
  · obtain ⟨G, ρ, p, S, e, k⟩ := h
    obtain ⟨x, e1, e2⟩ := bnd_eq.mp (show bnd (evE cf ia ρ) (fun x => bnd (truthF x) fun t => some (PyData.bool (!t))) = some p from e)
    obtain ⟨t, e3, e4⟩ := bnd_eq.mp e2
    cases e4
    refine UnaryOp_ (thn (ha.pe pins s σ H (fun v H1 => ∃ G1, Ext G H G1 H1 ∧ Rk X.K G1 H1 x v) I ⟨G, ρ, x, S, e1, fun v G1 H1 x1 r1 => ⟨G1, x1, r1.rk x1.gh⟩⟩) fun u s1 ⟨v, H1, I1, rv, G1, x1, r1⟩ => ?_)
    refine not_of (thn (tru_ok pins s1 σ H1 v u (fun b H' => b = t ∧ H' = H1) I1 rv ⟨t, truV x1.gh r1 e3, rfl, rfl⟩) fun b s2 ⟨H2, I2, hb, hH⟩ => ?_)
    subst hb hH
    exact ⟨.bl (!b), H2, I2, rfl, k _ G1 H2 x1 (.of rfl rfl)⟩
  · obtain ⟨x, e1, e2⟩ := bnd_eq.mp (show bnd (evE cf ia ρ) (fun x => bnd (truthF x) fun t => some (PyData.bool (!t))) = some p from e)
    obtain ⟨t, e3, e4⟩ := bnd_eq.mp e2
    cases e4
    have et' : (!t) = b := Option.some.inj et
    subst et'
    exact ⟨G, ρ, x, t, S, e1, e3, k⟩
/-- the rest of an and (an or): as a value, as a test -/
structure SndB (X : Cx) (cf : CF) (op : BoolOp) (ie : E) (es : List Expr) (pos : Pos) : Prop where
  pe : PE X (.BoolOp op es pos) (tE cf X.K ie)
  pw : PW X (.BoolOp op es pos) (tT cf X.K ie)
theorem sndb_one {op : BoolOp} {ia : E} {a : Expr} {pos : Pos} (ha : Snd X cf ia a) : SndB X cf op ia [a] pos := by
  refine ⟨pe_one ha.pe, ?_⟩
  cases op with
  | And => exact pw_and1 ha.pt
  | Or => exact pw_or1 ha.pt
theorem sndb_and {ia ib : E} {a b : Expr} {rest : List Expr} {pos : Pos} (ha : Snd X cf ia a) (hka : isPeek ia = false) (hb : SndB X cf .And ib (b :: rest) pos) (hkb : isPeek ib = false) : SndB X cf .And (.and ia ib) (a :: b :: rest) pos := by
  refine ⟨fun pins s σ H Q I h => ?_, (pw_and ha.pt hb.pw).weak fun σ H Q ⟨G, ρ, p, c, S, e, et, k⟩ => ?_⟩
  · obtain ⟨G, ρ, p, S, e, k⟩ := h
    obtain ⟨x, e1, e2⟩ := bnd_eq.mp (show bnd (evE cf ia ρ) (fun x => bnd (truthF x) fun t => if t then evE cf ib ρ else some x) = some p from e)
    obtain ⟨t, e3, e4⟩ := bnd_eq.mp e2
    refine BoolOp_and (thn (ha.pe pins s σ H (fun v H1 => ∃ G1, Ext G H G1 H1 ∧ Rp X.K G1 x v) I ⟨G, ρ, x, S, e1, fun v G1 H1 x1 r1 => ⟨G1, x1, r1.rp hka⟩⟩) fun u s1 ⟨v, H1, I1, rv, G1, x1, r1⟩ => ?_)
    refine thn (tru_ok pins s1 σ H1 v u (fun b H' => b = t ∧ H' = H1) I1 rv ⟨t, truV x1.gh (r1.rk x1.gh) e3, rfl, rfl⟩) fun b s2 ⟨H2, I2, hb', hH⟩ => ?_
    subst hb' hH
    cases b with
    | true => exact hb.pe pins s2 σ H2 Q I2 ⟨G1, ρ, p, S.ext x1, e4, fun w G2 H3 x2 r2 => k w G2 H3 (x1.trans x2) (.of rfl (r2.rp hkb))⟩
    | false =>
      have e5 : x = p := Option.some.inj e4
      subst e5
      exact ⟨v, H2, I2, rv, k v G1 H2 x1 (.of rfl r1)⟩
  · obtain ⟨x, e1, e2⟩ := bnd_eq.mp (show bnd (evE cf ia ρ) (fun x => bnd (truthF x) fun t => if t then evE cf ib ρ else some x) = some p from e)
    obtain ⟨t, e3, e4⟩ := bnd_eq.mp e2
    refine ⟨G, ρ, x, t, S, e1, e3, fun G1 H1 x1 => ?_⟩
    cases t with
    | true => exact iteT ⟨G1, ρ, p, c, S.ext x1, e4, et, fun G2 H2 x2 => k G2 H2 (x1.trans x2)⟩
    | false =>
      have e5 : x = p := Option.some.inj e4
      subst e5
      rw [e3] at et
      have e6 : false = c := Option.some.inj et
      subst e6
      exact iteF (k G1 H1 x1)
theorem sndb_or {ia ib : E} {a b : Expr} {rest : List Expr} {pos : Pos} (ha : Snd X cf ia a) (hka : isPeek ia = false) (hb : SndB X cf .Or ib (b :: rest) pos) (hkb : isPeek ib = false) : SndB X cf .Or (.or ia ib) (a :: b :: rest) pos := by
  refine ⟨fun pins s σ H Q I h => ?_, (pw_or ha.pt hb.pw).weak fun σ H Q ⟨G, ρ, p, c, S, e, et, k⟩ => ?_⟩
  · obtain ⟨G, ρ, p, S, e, k⟩ := h
    obtain ⟨x, e1, e2⟩ := bnd_eq.mp (show bnd (evE cf ia ρ) (fun x => bnd (truthF x) fun t => if t then some x else evE cf ib ρ) = some p from e)
    obtain ⟨t, e3, e4⟩ := bnd_eq.mp e2
    refine BoolOp_or (thn (ha.pe pins s σ H (fun v H1 => ∃ G1, Ext G H G1 H1 ∧ Rp X.K G1 x v) I ⟨G, ρ, x, S, e1, fun v G1 H1 x1 r1 => ⟨G1, x1, r1.rp hka⟩⟩) fun u s1 ⟨v, H1, I1, rv, G1, x1, r1⟩ => ?_)
    refine thn (tru_ok pins s1 σ H1 v u (fun b H' => b = t ∧ H' = H1) I1 rv ⟨t, truV x1.gh (r1.rk x1.gh) e3, rfl, rfl⟩) fun b s2 ⟨H2, I2, hb', hH⟩ => ?_
    subst hb' hH
    cases b with
    | false => exact hb.pe pins s2 σ H2 Q I2 ⟨G1, ρ, p, S.ext x1, e4, fun w G2 H3 x2 r2 => k w G2 H3 (x1.trans x2) (.of rfl (r2.rp hkb))⟩
    | true =>
      have e5 : x = p := Option.some.inj e4
      subst e5
      exact ⟨v, H2, I2, rv, k v G1 H2 x1 (.of rfl r1)⟩
  · obtain ⟨x, e1, e2⟩ := bnd_eq.mp (show bnd (evE cf ia ρ) (fun x => bnd (truthF x) fun t => if t then some x else evE cf ib ρ) = some p from e)
    obtain ⟨t, e3, e4⟩ := bnd_eq.mp e2
    refine ⟨G, ρ, x, t, S, e1, e3, fun G1 H1 x1 => ?_⟩
    cases t with
    | false => exact iteF ⟨G1, ρ, p, c, S.ext x1, e4, et, fun G2 H2 x2 => k G2 H2 (x1.trans x2)⟩
    | true =>
      have e5 : x = p := Option.some.inj e4
      subst e5
      rw [e3] at et
      have e6 : true = c := Option.some.inj et
      subst e6
      exact iteT (k G1 H1 x1)
theorem SndB.snd {op : BoolOp} {ie : E} {es : List Expr} {pos : Pos} (h : SndB X cf op ie es pos) : Snd X cf ie (.BoolOp op es pos) := ⟨h.pe, h.pw.pt⟩
theorem snd_ite {ic ia ib : E} {c a b : Expr} {pos : Pos} (hc : Snd X cf ic c) (ha : Snd X cf ia a) (hb : Snd X cf ib b) (hka : isPeek ia = false) (hkb : isPeek ib = false) : PE X (.IfExp c a b pos) (tE cf X.K (.ite ic ia ib)) :=
  (pe_ifExp hc.pt ha.pe hb.pe).weak fun σ H Q ⟨G, ρ, p, S, e, k⟩ => by
    obtain ⟨x, e1, e2⟩ := bnd_eq.mp (show bnd (evE cf ic ρ) (fun x => bnd (truthF x) fun t => if t then evE cf ia ρ else evE cf ib ρ) = some p from e)
    obtain ⟨t, e3, e4⟩ := bnd_eq.mp e2
    refine ⟨G, ρ, x, t, S, e1, e3, fun G1 H1 x1 => ?_⟩
    cases t with
    | true => exact iteT ⟨G1, ρ, p, S.ext x1, e4, fun w G2 H3 x2 r2 => k w G2 H3 (x1.trans x2) (.of rfl (r2.rp hka))⟩
    | false => exact iteF ⟨G1, ρ, p, S.ext x1, e4, fun w G2 H3 x2 r2 => k w G2 H3 (x1.trans x2) (.of rfl (r2.rp hkb))⟩

/-! ### a < b < c -/
theorem chain_w {o o' : Op2} (ho2 : ∀ p q r, opF2 o p q = some r → ∃ b, r = .bool b) {a b c : E} : ∀ σ H Q, tE cf X.K (.chain o o' a b c) σ H Q → tChain (rOp2 X.K o) (rOp2 X.K o') (tE cf X.K a) (tE cf X.K b) (tE cf X.K c) σ H Q := fun σ H Q ⟨G, ρ, p, S, e, k⟩ => by
  obtain ⟨x, e1, e⟩ := bnd_eq.mp (show bnd (evE cf a ρ) (fun x => bnd (evE cf b ρ) fun y => bnd (opF2 o x y) (chainF fun _ => bnd (evE cf c ρ) fun z => opF2 o' y z)) = some p from e)
  obtain ⟨y, e2, e⟩ := bnd_eq.mp e
  obtain ⟨r, e3, e4⟩ := bnd_eq.mp e
  obtain ⟨t, rfl⟩ := ho2 x y r e3
  refine ⟨G, ρ, x, S, e1, fun v G1 H1 x1 r1 => ⟨G1, ρ, y, S.ext x1, e2, fun w G2 H2 x2 r2 => ⟨G2, x, y, .bool t, x2.gh, (r1.rk x1.gh).ext x2, r2.rk x2.gh, e3, fun u G3 H3 x3 r3 => ⟨t, r3, ?_⟩⟩⟩⟩
  cases t with
  | false =>
    cases (show some (PyData.bool false) = some p from e4)
    exact iteF (k _ G3 H3 (x1.trans (x2.trans x3)) (.of rfl rfl))
  | true =>
    obtain ⟨z, e5, e6⟩ := bnd_eq.mp (show bnd (evE cf c ρ) (fun z => opF2 o' y z) = some p from e4)
    exact iteT ⟨G3, ρ, z, ((S.ext x1).ext x2).ext x3, e5, fun u' G4 H4 x4 r4 => ⟨G4, y, z, p, x4.gh, ((r2.rk x2.gh).ext x3).ext x4, r4.rk x4.gh, e6, fun u5 G5 H5 x5 r5 => k u5 G5 H5 (x1.trans (x2.trans (x3.trans (x4.trans x5)))) (.of rfl r5)⟩⟩
theorem chain_bool {o o' : Op2} (ho' : ∀ p q r, opF2 o' p q = some r → ∃ b, r = .bool b) {a b c : E} {ρ : Env} {p : PV} (e : evE cf (.chain o o' a b c) ρ = some p) : ∃ t, p = .bool t := by
  obtain ⟨x, e1, e⟩ := bnd_eq.mp (show bnd (evE cf a ρ) (fun x => bnd (evE cf b ρ) fun y => bnd (opF2 o x y) (chainF fun _ => bnd (evE cf c ρ) fun z => opF2 o' y z)) = some p from e)
  obtain ⟨y, e2, e⟩ := bnd_eq.mp e
  obtain ⟨r, e3, e4⟩ := bnd_eq.mp e
  cases r with
  | bool t =>
    cases t with
    | true =>
      obtain ⟨z, e5, e6⟩ := bnd_eq.mp (show bnd (evE cf c ρ) (fun z => opF2 o' y z) = some p from e4)
      exact ho' _ _ _ e6
    | false => cases (show some (PyData.bool false) = some p from e4); exact ⟨false, rfl⟩
  | _ => cases (show none = some p from e4)
theorem snd_chain {op op' : CmpOp} {o o' : Op2} {ia ib ic : E} {a b c : Expr} {pos : Pos} (ho : OpR X (compareOp op) (rOp2 X.K o)) (ho' : OpR X (compareOp op') (rOp2 X.K o')) (h2 : ∀ p q r, opF2 o p q = some r → ∃ b, r = .bool b) (h2' : ∀ p q r, opF2 o' p q = some r → ∃ b, r = .bool b)
    (ha : PE X a (tE cf X.K ia)) (hb : PE X b (tE cf X.K ib)) (hc : PE X c (tE cf X.K ic)) (hm : lastMarks [op, op'] [b, c] = false) : Snd X cf (.chain o o' ia ib ic) (.Compare a [op, op'] [b, c] pos) := by
  refine ⟨(pe_chain ho ho' ha hb hc hm).weak (chain_w h2), (pt_chain ho ho' ha hb hc hm).weak fun σ H Q ⟨G, ρ, p, t, S, e, et, k⟩ => ?_⟩
  refine chain_w h2 σ H (fun x H' => ∃ c, x = .bl c ∧ Q c H') ⟨G, ρ, p, S, e, fun v G' H' x r => ?_⟩
  obtain ⟨b', rfl⟩ := chain_bool h2' e
  have et' : b' = t := Option.some.inj et
  subst et'
  have rv : Rp X.K G' (.bool b') v := r.rp rfl
  cases (show v = .bl b' from rv)
  exact ⟨b', rfl, k G' H' x⟩

/-! ### a def of the text -/
/-- what a def promises: its value by the small language -/
def spD (K : PySem.W.Frag) (np : Nat) (r : List PV → Option PV) : Sp := fun vs H Q _ => vs.length = np ∧ ∃ G ps p, Sub G H ∧ RpL K G ps vs ∧ r ps = some p ∧ ∀ v G' H', Ext G H G' H' → Rp K G' p v → Q v H'
theorem snd_call {f : Nat} {ia : E} {es : List Expr} {x : Str} {p pos : Pos} {k : Nat} {fa : Addr} {fd : FuncData} {ps : List Str} {e : Expr} (F : FnOk X.prog X.w X.K X.mg X.base CX0 k fa fd ps (spD X.K ps.length (cf f))) (hr : Room k X.A) (hg : Gl X x) (hm : X.mg x = some (.ref fa))
    (hk : PySem.W.keepIn X.K (.ref fa) = true) (hb : Binds X.K fd ps []) (ha : PA X (e :: es) (tA cf X.K ia)) (hn : argN ia = some ps.length) (hdb : (x == ("__debug__" : Str)) = false) (hs : plainE e = true) (hpl : es.all plainE = true) :
    Snd X cf (.call f ia) (.Call (.Name x p) (e :: es) [] pos) := by
  have hany : (backTo pos (starEach es X.env)).any (·.1) = false := by
    have : ∀ l : List Expr, l.all plainE = true → (starEach l X.env).any (·.1) = false := by
      intro l
      induction l with
      | nil => intro _; rfl
      | cons y l ih =>
        intro h
        rw [List.all_cons, Bool.and_eq_true] at h
        rw [star_of h.1, List.any_cons, ih h.2]; rfl
    have h2 := this es hpl
    have h3 : ∀ l : List (Bool × Sem Value), (backTo pos l).any (·.1) = l.any (·.1) := by
      intro l
      unfold backTo
      rw [List.any_map]
      rfl
    rw [h3]; exact h2
  refine .plain ((pe_call F hr hg hm hk hb .nil pass0 ha hdb (star_of hs _ _) hany).weak fun σ H Q ⟨G, ρ, q, S, e, k⟩ => ?_) (fun _ => rfl)
  obtain ⟨r, e1, e2⟩ := bnd_eq.mp (show bnd (evE cf ia ρ) (callF cf f) = some q from e)
  obtain ⟨xs, rfl, hl⟩ := args_len ia _ ρ r hn e1
  refine ⟨G, ρ, xs, S, e1, fun vs G1 H1 x1 r1 => ?_⟩
  show spD X.K ps.length (cf f) (vs ++ []) H1 Q E0
  rw [List.append_nil]
  exact ⟨by rw [← r1.length]; exact hl, G1, xs, q, x1.gh, r1, e2, fun v G2 H2 x2 r2 => k v G2 H2 (x1.trans x2) (.of rfl r2)⟩
end
end DD
set_option Elab.async false
set_option linter.all false
set_option maxRecDepth 100000
namespace DD
open PySem PySem.Spec PyProof.Rows L2

/-! ### equal values -/
mutual
def pvB : PV → PV → Bool
  | .none, .none => true
  | .bool a, .bool b => a == b
  | .int a, .int b => a == b
  | .str a, .str b => a == b
  | .list a, .list b => pvsB a b
  | .tuple a, .tuple b => pvsB a b
  | _, _ => false
def pvsB : List PV → List PV → Bool
  | [], [] => true
  | x :: xs, y :: ys => pvB x y && pvsB xs ys
  | _, _ => false
end
mutual
theorem pvB_eq : ∀ {p q : PV}, pvB p q = true → p = q
  | .none, q, h => by cases q <;> simp_all [pvB]
  | .bool a, q, h => by cases q <;> simp_all [pvB]
  | .int a, q, h => by cases q <;> simp_all [pvB]
  | .str a, q, h => by cases q <;> simp_all [pvB]
  | .list a, q, h => by
    cases q with
    | list b => rw [pvB] at h; rw [pvsB_eq h]
    | _ => simp [pvB] at h
  | .tuple a, q, h => by
    cases q with
    | tuple b => rw [pvB] at h; rw [pvsB_eq h]
    | _ => simp [pvB] at h
  | .dict a, q, h => by cases q <;> simp [pvB] at h
theorem pvsB_eq : ∀ {p q : List PV}, pvsB p q = true → p = q
  | [], q, h => by cases q <;> simp_all [pvsB]
  | x :: xs, q, h => by
    cases q with
    | nil => simp [pvsB] at h
    | cons y ys =>
      rw [pvsB, Bool.and_eq_true] at h
      rw [pvB_eq h.1, pvsB_eq h.2]
end

/-- what the text's top gives: the defs (name, number, parameters), the constants, the names of Python's own that are not given another meaning -/
structure Info where
  fns : List (Str × Nat × Nat)
  consts : List (Str × PV)
  blts : List Str
structure Good (X : Cx) (k : Nat) (cf : CF) (Gam : Info) : Prop where
  calm : X.calm = true
  xe : X.xe = fun _ _ => False
  room : Room k X.A
  fns : ∀ x id n, (x, id, n) ∈ Gam.fns → ∃ fa fd ps, ps.length = n ∧ X.mg x = some (.ref fa) ∧ PySem.W.keepIn X.K (.ref fa) = true ∧ L2.Binds X.K fd ps [] ∧ FnOk X.prog X.w X.K X.mg X.base CX0 k fa fd ps (spD X.K ps.length (cf id))
  consts : ∀ x p, (x, p) ∈ Gam.consts → ∃ u v, X.mg x = some u ∧ RelV v u ∧ ∀ G, Rp X.K G p v
  blts : ∀ x ∈ Gam.blts, X.mg x = none
abbrev Nms := List (Str × NameKind)
def okN (x : Str) : Bool := !(x == ("__debug__" : Str)) && !(x == ("__classdict__" : Str)) && !(x == ("__name__" : Str))
def visB (nm : Nms) (x : Str) : Bool := nm.lookup x == some .local || nm.lookup x == some .cell || nm.lookup x == some .free
def glB (nm : Nms) (x : Str) : Bool := nm.lookup x == some .globalImplicit && okN x
def bltB (Gam : Info) (nm : Nms) (x y : Str) : Bool := x == y && glB nm x && Gam.blts.contains x
theorem okN_of {x : Str} (h : okN x = true) : (x == ("__debug__" : Str)) = false ∧ (x == ("__classdict__" : Str)) = false ∧ x ≠ "__name__" := by
  unfold okN at h
  simp only [Bool.and_eq_true, Bool.not_eq_true'] at h
  exact ⟨h.1.1, h.1.2, by simpa using h.2⟩
theorem visB_of {sc : Scope} {x : Str} (h : visB sc.names x = true) : Vis sc x := by
  unfold visB at h
  simp only [Bool.or_eq_true, beq_iff_eq] at h
  rcases h with (h | h) | h
  · exact .inl h
  · exact .inr (.inl h)
  · exact .inr (.inr h)
def conB (p : PV) : Const → Bool
  | .none => pvB p .none
  | .bool b => pvB p (.bool b)
  | .int i => pvB p (.int i)
  | .str x => pvB p (.str x) && PyData.strOk x && decide (x.length ≤ 16777216)
  | _ => false
def binO : Op2 → Option Operator
  | .add => some .Add
  | .sub => some .Sub
  | .fdiv => some .FloorDiv
  | .mod => some .Mod
  | .mul => some .Mult
  | _ => none
def binB (o : Op2) (op : Operator) : Bool := decide (binO o = some op)
def cmpO : Op2 → Option CmpOp
  | .eq => some .Eq
  | .ne => some .NotEq
  | .lt => some .Lt
  | .le => some .LtE
  | .gt => some .Gt
  | .ge => some .GtE
  | .inn => some .In
  | .nin => some .NotIn
  | _ => none
def cmpB (o : Op2) (op : CmpOp) : Bool := decide (cmpO o = some op)
def kindT : Op1 → Option String
  | .isTup => some "tuple"
  | .isList => some "list"
  | .isInt => some "int"
  | .isBool => some "bool"
  | .isStr => some "str"
  | _ => none
def bltFn : Op1 → Option Str
  | .len => some "len"
  | .toTuple => some "tuple"
  | .toList => some "list"
  | .toInt => some "int"
  | _ => none

section
variable {X : Cx}
theorem s_mul : OpR X (binaryOp .Mult) (rOp2 X.K .mul) := by
  intro pins s σ H x y v u Q I rx ry h
  obtain ⟨G, p, q, r, sb, hp, hq, e, k⟩ := h
  cases p with
  | int i =>
    cases q with
    | int j =>
      have e' : (if small i || small j then some (PyData.int (i * j)) else none) = some r := e
      by_cases hl : (small i || small j) = true
      · rw [if_pos hl] at e'
        cases e'
        cases (show x = .int i from hp); cases (show y = .int j from hq)
        refine op_mul pins s σ H _ _ v u Q I rx ry ⟨i, j, rfl, rfl, ?_, k _ G H (.refl sb) rfl⟩
        rw [Bool.or_eq_true] at hl
        exact hl.elim (fun h => .inl (small_of h)) fun h => .inr (small_of h)
      · rw [if_neg hl] at e'; cases e'
    | _ => simp at e
  | _ => cases q <;> simp at e
theorem ints_rel {K : PySem.W.Frag} {G : Hp} : ∀ {ps : List PV} {vs : List V} {ns : List Int}, RpL K G ps vs → intsOf ps = some ns → vs = ns.map V.int
  | [], _, _, h, e => by
    cases (show _ = [] from h)
    cases (show some [] = some _ from e)
    rfl
  | p :: ps, _, ns, h, e => by
    obtain ⟨v, w, rfl, h1, h2⟩ := (show ∃ v r, _ = v :: r ∧ Rp K G p v ∧ RpL K G ps r from h)
    cases p with
    | int i =>
      obtain ⟨q, e1, e2⟩ := bnd_eq.mp (show bnd (intsOf ps) (fun q => some (i :: q)) = some ns from e)
      cases e2
      cases (show v = .int i from h1)
      rw [ints_rel h2 e1]; rfl
    | _ => simp at e
theorem lexLt_eq : ∀ (a b : List Int), DD.lexLt a b = HT.lexLt a b
  | [], [] => rfl
  | [], _ :: _ => rfl
  | _ :: _, [] => rfl
  | x :: xs, y :: ys => by
    rw [HT.lexLt_cons, DD.lexLt, lexLt_eq xs ys]
theorem s_lt (hu : X.A.units + 190 < cLine) : OpR X (compareOp .Lt) (rOp2 X.K .lt) := by
  intro pins s σ H x y v u Q I rx ry h
  obtain ⟨G, p, q, r, sb, hp, hq, e, k⟩ := h
  cases p with
  | int i =>
    cases q with
    | int j =>
      cases (show some (PyData.bool (decide (i < j))) = some r from e)
      cases (show x = .int i from hp); cases (show y = .int j from hq)
      exact op_lt pins s σ H _ _ v u Q I rx ry ⟨i, j, rfl, rfl, k _ G H (.refl sb) rfl⟩
    | _ => simp at e
  | tuple xs =>
    cases q with
    | tuple ys =>
      obtain ⟨ns, e1, e⟩ := bnd_eq.mp (show bnd (intsOf xs) (fun ns => bnd (intsOf ys) fun ms => some (PyData.bool (DD.lexLt ns ms))) = some r from e)
      obtain ⟨ms, e2, e⟩ := bnd_eq.mp e
      cases e
      obtain ⟨a, vs, rfl, q1, r1⟩ := (show ∃ a vs, x = V.ref a ∧ SqT X.K G a vs ∧ RpL X.K G xs vs from hp)
      obtain ⟨b, ws, rfl, q2, r2⟩ := (show ∃ a vs, y = V.ref a ∧ SqT X.K G a vs ∧ RpL X.K G ys vs from hq)
      have h1 := ints_rel r1 e1
      have h2 := ints_rel r2 e2
      subst h1 h2
      refine op_ltT (by omega) pins s σ H _ _ v u Q I rx ry ⟨a, b, ns, ms, rfl, rfl, sb.sqT q1, sb.sqT q2, k _ G H (.refl sb) ?_⟩
      rw [lexLt_eq]; rfl
    | _ => simp at e
  | _ => cases q <;> simp at e
theorem s_isN : OpR X (compareOp .Is) (fun x y H Q => y = .non ∧ rOp1 X.K .isN x H Q) := by
  intro pins s σ H x y v u Q I rx ry h
  obtain ⟨rfl, G, p, r, sb, hp, e, k⟩ := h
  refine op_isN pins s σ H x .non v u Q I rx ry ⟨rfl, ?_⟩
  have key : Rp X.K G r (.bl (decide (x = .non))) := by
    cases p with
    | none => cases (show x = .non from hp); cases (show some (PyData.bool true) = some r from e); exact (rfl : V.bl (decide (V.non = V.non)) = .bl true)
    | bool b => cases (show x = .bl b from hp); cases (show some (PyData.bool false) = some r from e); exact (rfl : V.bl (decide (V.bl b = V.non)) = .bl false)
    | int b => cases (show x = .int b from hp); cases (show some (PyData.bool false) = some r from e); exact (rfl : V.bl (decide (V.int b = V.non)) = .bl false)
    | str b =>
      obtain ⟨rfl, _⟩ := (show x = .str b ∧ _ from hp)
      cases (show some (PyData.bool false) = some r from e); exact (rfl : V.bl (decide (V.str b = V.non)) = .bl false)
    | list ps =>
      obtain ⟨a, vs, rfl, _⟩ := (show ∃ a vs, x = V.ref a ∧ SqL X.K H a vs ∧ RpL X.K G ps vs from hp)
      cases (show some (PyData.bool false) = some r from e); exact (rfl : V.bl (decide (V.ref a = V.non)) = .bl false)
    | tuple ps =>
      obtain ⟨a, vs, rfl, _⟩ := (show ∃ a vs, x = V.ref a ∧ SqT X.K G a vs ∧ RpL X.K G ps vs from hp)
      cases (show some (PyData.bool false) = some r from e); exact (rfl : V.bl (decide (V.ref a = V.non)) = .bl false)
    | dict kvs => exact (show False from hp).elim
  exact k _ G H (.refl sb) key
theorem s_notN : OpR X (compareOp .IsNot) (fun x y H Q => y = .non ∧ rOp1 X.K .notN x H Q) := by
  intro pins s σ H x y v u Q I rx ry h
  obtain ⟨rfl, G, p, r, sb, hp, e, k⟩ := h
  refine op_notN pins s σ H x .non v u Q I rx ry ⟨rfl, ?_⟩
  have key : Rp X.K G r (.bl (!decide (x = .non))) := by
    cases p with
    | none => cases (show x = .non from hp); cases (show some (PyData.bool false) = some r from e); exact (rfl : V.bl (!decide (V.non = V.non)) = .bl false)
    | bool b => cases (show x = .bl b from hp); cases (show some (PyData.bool true) = some r from e); exact (rfl : V.bl (!decide (V.bl b = V.non)) = .bl true)
    | int b => cases (show x = .int b from hp); cases (show some (PyData.bool true) = some r from e); exact (rfl : V.bl (!decide (V.int b = V.non)) = .bl true)
    | str b =>
      obtain ⟨rfl, _⟩ := (show x = .str b ∧ _ from hp)
      cases (show some (PyData.bool true) = some r from e); exact (rfl : V.bl (!decide (V.str b = V.non)) = .bl true)
    | list ps =>
      obtain ⟨a, vs, rfl, _⟩ := (show ∃ a vs, x = V.ref a ∧ SqL X.K H a vs ∧ RpL X.K G ps vs from hp)
      cases (show some (PyData.bool true) = some r from e); exact (rfl : V.bl (!decide (V.ref a = V.non)) = .bl true)
    | tuple ps =>
      obtain ⟨a, vs, rfl, _⟩ := (show ∃ a vs, x = V.ref a ∧ SqT X.K G a vs ∧ RpL X.K G ps vs from hp)
      cases (show some (PyData.bool true) = some r from e); exact (rfl : V.bl (!decide (V.ref a = V.non)) = .bl true)
    | dict kvs => exact (show False from hp).elim
  exact k _ G H (.refl sb) key
theorem s_neg : UnR X (unaryOp .USub) (rOp1 X.K .neg) := by
  intro pins s σ H x v Q I rx h
  obtain ⟨G, p, r, sb, hp, e, k⟩ := h
  cases p with
  | int i =>
    cases (show some (PyData.int (-i)) = some r from e)
    cases (show x = .int i from hp)
    exact un_neg pins s σ H _ v Q I rx ⟨i, rfl, k _ G H (.refl sb) rfl⟩
  | _ => simp at e
end

section
variable {X : Cx} {cf : CF}
theorem snd_neg {ia : E} {a : Expr} {pos : Pos} (ha : PE X a (tE cf X.K ia)) : Snd X cf (.op1 .neg ia) (.UnaryOp .USub a pos) :=
  .plain ((pe_un s_neg ha).weak fun σ H Q h => op1_w σ H Q h) (fun _ => rfl)
theorem is_bool {o : Op1} (ho : o = .isN ∨ o = .notN) {p r : PV} (e : opF1 o p = some r) : ∃ b, r = .bool b := by
  rcases ho with rfl | rfl <;> (cases p <;> (cases e; exact ⟨_, rfl⟩))
theorem snd_is {op : CmpOp} {o : Op1} {ia : E} {a : Expr} {j : Nat} {p2 pos : Pos} (ho : OpR X (compareOp op) (fun x y H Q => y = .non ∧ rOp1 X.K o x H Q)) (ho1 : o = .isN ∨ o = .notN) (ha : PE X a (tE cf X.K ia)) (hm : behindInMarks op (.Constant .none j p2) = false) :
    Snd X cf (.op1 o ia) (.Compare a [op] [.Constant .none j p2] pos) := by
  have w : ∀ σ H Q, tE cf X.K (.op1 o ia) σ H Q → tOp (fun x y H Q => y = .non ∧ rOp1 X.K o x H Q) (tE cf X.K ia) (tC .non) σ H Q := fun σ H Q h => tE_mono (op1_w σ H Q h) fun v H' q => ⟨rfl, q⟩
  refine ⟨(pe_cmpR ho ha pe_non hm).weak w, (pt_cmpR ho ha pe_non hm).weak fun σ H Q ⟨G, ρ, p, t, S, e, et, k⟩ => ?_⟩
  refine w σ H (fun x H' => ∃ c, x = .bl c ∧ Q c H') ⟨G, ρ, p, S, e, fun v G' H' x r => ?_⟩
  obtain ⟨x', e1, e2⟩ := bnd_eq.mp (show bnd (evE cf ia ρ) (opF1 o) = some p from e)
  obtain ⟨b', rfl⟩ := is_bool ho1 e2
  have et' : b' = t := Option.some.inj et
  subst et'
  have rv : Rp X.K G' (.bool b') v := r.rp rfl
  cases (show v = .bl b' from rv)
  exact ⟨b', rfl, k G' H' x⟩
end

section
variable (Gam : Info) (N : List Str) (nm : Nms) (f : E → Expr → Bool)
def chkA : E → List Expr → Bool
  | .nil, [] => true
  | .cons h t, e :: es => !isPeek h && plainE e && f h e && chkA t es
  | _, _ => false
def chkB (op : BoolOp) : E → List Expr → Bool
  | ie, [e] => f ie e
  | .and a b, e :: e2 :: r => op == .And && !isPeek a && !isPeek b && f a e && chkB op b (e2 :: r)
  | .or a b, e :: e2 :: r => op == .Or && !isPeek a && !isPeek b && f a e && chkB op b (e2 :: r)
  | _, _ => false
def chkVar (i : Nat) : Expr → Bool
  | .Name x _ => N[i]? == some x && visB nm x && okN x
  | _ => false
def chkCon (p : PV) : Expr → Bool
  | .Constant c _ _ => conB p c
  | .Name x _ => glB nm x && Gam.consts.any fun c => c.1 == x && pvB c.2 p
  | _ => false
def chkTup (a : E) : Expr → Bool
  | .Tuple es _ _ => chkA f a es && (argN a).any (· ≤ 1000)
  | _ => false
def chkLst (a : E) : Expr → Bool
  | .List es _ => chkA f a es && (argN a).any (· ≤ 1000)
  | _ => false
def chkOp1 (o : Op1) (a : E) : Expr → Bool
  | .Call (.Name x _) [y] [] _ => (bltFn o).any (fun z => bltB Gam nm x z) && plainE y && f a y
  | .Call (.Name x _) [y, .Name t _] [] _ => bltB Gam nm x "isinstance" && (kindT o).any (fun z => bltB Gam nm t z) && plainE y && f a y
  | .UnaryOp .USub y _ => o == .neg && f a y
  | .Compare y [.Is] [.Constant .none _ _] _ => o == .isN && f a y
  | .Compare y [.IsNot] [.Constant .none _ _] _ => o == .notN && f a y
  | _ => false
def chkOp2 (o : Op2) (a b : E) : Expr → Bool
  | .BinOp x op y _ => binB o op && f a x && f b y
  | .Compare x [op] [y] _ => cmpB o op && !behindInMarks op y && f a x && f b y
  | .Subscript x y _ => o == .ix && ixE y && f a x && f b y
  | .Call (.Attribute (.Constant (.str s) _ _) m apos) [y] [] pos => o == .join && m == "join" && (match a with | .con p => pvB p (.str s) | _ => false) && PyData.strOk s && decide (s.length ≤ 16777216) && plainE y && apos.endLine == pos.line && f b y
  | _ => false
def chkP : E → Option Expr → Bool
  | ie, some e => !isPeek ie && f ie e
  | .con .none, none => true
  | _, none => false
def chkSl (a lo hi : E) : Expr → Bool
  | .Subscript x (.Slice l h none _) _ => f a x && chkP f lo l && chkP f hi h
  | _ => false
def chkCall (id : Nat) (a : E) : Expr → Bool
  | .Call (.Name x _) (y :: ys) [] _ => glB nm x && plainE y && ys.all plainE && chkA f a (y :: ys) && Gam.fns.any fun r => r.1 == x && r.2.1 == id && argN a == some r.2.2
  | _ => false
def chkAnd (a b : E) : Expr → Bool
  | .BoolOp .And (x :: y :: r) _ => chkB f .And (.and a b) (x :: y :: r)
  | _ => false
def chkOr (a b : E) : Expr → Bool
  | .BoolOp .Or (x :: y :: r) _ => chkB f .Or (.or a b) (x :: y :: r)
  | _ => false
def chkNot (a : E) : Expr → Bool
  | .UnaryOp .Not x _ => f a x
  | _ => false
def chkIte (c a b : E) : Expr → Bool
  | .IfExp t x y _ => f c t && f a x && f b y && !isPeek a && !isPeek b
  | _ => false
def chkChain (o o' : Op2) (a b c : E) : Expr → Bool
  | .Compare x [op, op'] [y, z] _ => cmpB o op && cmpB o' op' && !lastMarks [op, op'] [y, z] && f a x && f b y && f c z
  | _ => false
def notSet : Expr → Bool
  | .Set .. => false
  | _ => true
def chkI : E → Expr → Bool
  | .rng a, .Call (.Name x _) [y] [] _ => bltB Gam nm x "range" && !isPeek a && plainE y && f a y
  | ie, e => !isPeek ie && notSet e && f ie e
def relB (nm : Nms) (names : Nms) : Nms := names.map fun (n, k) => if (k == .free && nm.lookup n == some .cell) then (n, NameKind.cell) else (n, k)
def tgNames : Option Nat → Expr → Option (List Str)
  | none, .Name x _ => some [x]
  | some n, .Tuple es _ _ => if es.length = n then (es.mapM fun e => match e with | .Name x _ => some x | _ => none) else none
  | _, _ => none
def scopeB (own : List Str) (caps : List Nat) (scope : Scope) : Bool :=
  scope.kind == .function && scope.names.all (fun x => x.2 != .cell) && scope.names.all (fun x => x.2 != .local || scope.names.lookup x.1 == some .local) &&
  scope.names.all (fun x => x.2 != .free || nm.lookup x.1 == some .cell || nm.lookup x.1 == some .free) &&
  caps.all (fun j => match N[j]? with | some y => visB nm y && scope.names.lookup y == some .free | none => false) && decide caps.Nodup &&
  own.all (fun x => scope.names.lookup x == some .local && okN x) && decide (own ++ caps.map fun j => N.getD j "").Nodup
def isTrueC : E → Bool
  | .con (.bool true) => true
  | _ => false
def chkComp (g : List Str → Nms → E → Expr → Bool) (tg : Option Nat) (caps : List Nat) (it cond elt : E) : Expr → Bool
  | .ListComp y [⟨tgt, iter, ifs, z⟩] scope _ => match tgNames tg tgt with
    | none => false
    | some own => z == 0 && scopeB N nm own caps scope && notSet iter && chkI Gam nm f it iter && !isPeek elt &&
      g (own ++ caps.map fun j => N.getD j "") (relB nm scope.names) elt y &&
      (match ifs with
        | [] => isTrueC cond
        | [c] => g (own ++ caps.map fun j => N.getD j "") (relB nm scope.names) cond c
        | _ => false)
  | _ => false
end
def chkE (Gam : Info) : Nat → List Str → Nms → E → Expr → Bool
  | 0, _, _, _, _ => false
  | n + 1, N, nm, ie, e => match ie with
    | .var i => chkVar N nm i e
    | .peek i => chkVar N nm i e
    | .con p => chkCon Gam nm p e
    | .nil => false
    | .cons _ _ => false
    | .tup a => chkTup (chkE Gam n N nm) a e
    | .lst a => chkLst (chkE Gam n N nm) a e
    | .op1 o a => chkOp1 Gam nm (chkE Gam n N nm) o a e
    | .op2 o a b => chkOp2 (chkE Gam n N nm) o a b e
    | .sl a lo hi => chkSl (chkE Gam n N nm) a lo hi e
    | .call f a => chkCall Gam nm (chkE Gam n N nm) f a e
    | .and a b => chkAnd (chkE Gam n N nm) a b e
    | .or a b => chkOr (chkE Gam n N nm) a b e
    | .not a => chkNot (chkE Gam n N nm) a e
    | .ite c a b => chkIte (chkE Gam n N nm) c a b e
    | .chain o o' a b c => chkChain (chkE Gam n N nm) o o' a b c e
    | .comp tg caps it cond elt => chkComp Gam N nm (chkE Gam n N nm) (chkE Gam n) tg caps it cond elt e
    | .rng _ => false
    | .rng2 _ _ => false
end DD
set_option Elab.async false
set_option linter.all false
set_option maxRecDepth 100000
set_option maxHeartbeats 1000000
namespace DD
open PySem PySem.Spec PyProof.Rows L2

section
variable {X : Cx} {cf : CF} {k : Nat} {Gam : Info} {f : E → Expr → Bool}
theorem Good.units (g : Good X k cf Gam) : X.A.units + 190 < cLine := by have := g.room.un; omega
theorem ok_var {i : Nat} {e : Expr} (h : chkVar X.N X.env.scope.names i e = true) : Snd X cf (.var i) e ∧ Snd X cf (.peek i) e := by
  cases e with
  | Name x pos =>
    simp only [chkVar, Bool.and_eq_true, beq_iff_eq] at h
    obtain ⟨⟨h1, h2⟩, h3⟩ := h
    obtain ⟨o1, o2, o3⟩ := okN_of h3
    exact ⟨snd_var h1 (visB_of h2) o1 o2, snd_peek h1 (visB_of h2) o1 o2⟩
  | _ => simp [chkVar] at h
theorem glB_of {x : Str} (h : glB X.env.scope.names x = true) : Gl X x ∧ (x == ("__debug__" : Str)) = false ∧ x ≠ "__name__" := by
  simp only [glB, Bool.and_eq_true, beq_iff_eq] at h
  obtain ⟨o1, o2, o3⟩ := okN_of h.2
  exact ⟨h.1, o1, o3⟩
theorem bltB_of (g : Good X k cf Gam) {x y : Str} (h : bltB Gam X.env.scope.names x y = true) : x = y ∧ Gl X x ∧ (x == ("__debug__" : Str)) = false ∧ x ≠ "__name__" ∧ X.mg x = none := by
  simp only [bltB, Bool.and_eq_true, beq_iff_eq] at h
  obtain ⟨⟨h1, h2⟩, h3⟩ := h
  obtain ⟨a, b, c⟩ := glB_of h2
  exact ⟨h1, a, b, c, g.blts x (by simpa using h3)⟩
theorem ok_con (g : Good X k cf Gam) {p : PV} {e : Expr} (h : chkCon Gam X.env.scope.names p e = true) : Snd X cf (.con p) e := by
  cases e with
  | Constant c j pos =>
    have h' : conB p c = true := h
    refine .plain ?_ (fun _ => rfl)
    cases c with
    | none => cases pvB_eq (show pvB p .none = true from h'); exact pe_con pe_non fun G => rfl
    | bool b => cases pvB_eq (show pvB p (.bool b) = true from h'); exact pe_con pe_bl fun G => rfl
    | int i => cases pvB_eq (show pvB p (.int i) = true from h'); exact pe_con pe_int fun G => rfl
    | str x =>
      simp only [conB, Bool.and_eq_true, decide_eq_true_eq] at h'
      cases pvB_eq h'.1.1
      exact pe_con pe_str fun G => ⟨rfl, h'.1.2, h'.2⟩
    | float b => cases h'
    | complex a b => cases h'
    | bytes b => cases h'
    | ellipsis => cases h'
  | Name x pos =>
    simp only [chkCon, Bool.and_eq_true, List.any_eq_true, beq_iff_eq] at h
    obtain ⟨h1, c, hc, rfl, h3⟩ := h
    obtain ⟨gl, o1, o3⟩ := glB_of h1
    obtain ⟨u, v, hm, r, rp⟩ := g.consts c.1 c.2 hc
    rw [pvB_eq h3] at rp
    exact .plain (pe_con (pe_glob gl hm r o1) rp) (fun _ => rfl)
  | _ => simp [chkCon] at h
theorem isi_tuple : CallR X (.builtin "isinstance") (rIsi X.K .isTup "tuple") :=
  isi_ok (fun b e => by cases e; rfl) (fun c b e => by cases e; rfl) (fun c b e => by cases e; rfl) (fun c b e => by cases e; rfl) (fun c b e => by cases e; rfl) (fun c b e => by cases e; rfl) fun p r e => by cases p <;> first | (cases e; exact ⟨_, rfl⟩) | cases e
theorem isi_list : CallR X (.builtin "isinstance") (rIsi X.K .isList "list") :=
  isi_ok (fun b e => by cases e; rfl) (fun c b e => by cases e; rfl) (fun c b e => by cases e; rfl) (fun c b e => by cases e; rfl) (fun c b e => by cases e; rfl) (fun c b e => by cases e; rfl) fun p r e => by cases p <;> first | (cases e; exact ⟨_, rfl⟩) | cases e
theorem isi_int : CallR X (.builtin "isinstance") (rIsi X.K .isInt "int") :=
  isi_ok (fun b e => by cases e; rfl) (fun c b e => by cases e; rfl) (fun c b e => by cases e; rfl) (fun c b e => by cases e; rfl) (fun c b e => by cases e; rfl) (fun c b e => by cases e; rfl) fun p r e => by cases p <;> first | (cases e; exact ⟨_, rfl⟩) | cases e
theorem isi_bool : CallR X (.builtin "isinstance") (rIsi X.K .isBool "bool") :=
  isi_ok (fun b e => by cases e; rfl) (fun c b e => by cases e; rfl) (fun c b e => by cases e; rfl) (fun c b e => by cases e; rfl) (fun c b e => by cases e; rfl) (fun c b e => by cases e; rfl) fun p r e => by cases p <;> first | (cases e; exact ⟨_, rfl⟩) | cases e
theorem isi_str : CallR X (.builtin "isinstance") (rIsi X.K .isStr "str") :=
  isi_ok (fun b e => by cases e; rfl) (fun c b e => by cases e; rfl) (fun c b e => by cases e; rfl) (fun c b e => by cases e; rfl) (fun c b e => by cases e; rfl) (fun c b e => by cases e; rfl) fun p r e => by cases p <;> first | (cases e; exact ⟨_, rfl⟩) | cases e
variable (IH : ∀ ie e, f ie e = true → Snd X cf ie e)
include IH
theorem ok_args : ∀ {a : E} {es : List Expr}, chkA f a es = true → PA X es (tA cf X.K a) ∧ ∃ n, argN a = some n ∧ n = es.length
  | .nil, [], _ => ⟨snd_nil, 0, rfl, rfl⟩
  | .cons h t, e :: es, hc => by
    simp only [chkA, Bool.and_eq_true, Bool.not_eq_true'] at hc
    obtain ⟨⟨⟨h1, h2⟩, h3⟩, h4⟩ := hc
    obtain ⟨p, n, hn, hl⟩ := ok_args h4
    exact ⟨snd_cons (IH h e h3).pe p h1 h2, n + 1, by rw [argN, hn]; rfl, by simp [hl]⟩
  | .nil, _ :: _, hc => by simp [chkA] at hc
  | .cons _ _, [], hc => by simp [chkA] at hc
  | .var _, _, hc => by simp [chkA] at hc
  | .peek _, _, hc => by simp [chkA] at hc
  | .con _, _, hc => by simp [chkA] at hc
  | .tup _, _, hc => by simp [chkA] at hc
  | .lst _, _, hc => by simp [chkA] at hc
  | .op1 _ _, _, hc => by simp [chkA] at hc
  | .op2 _ _ _, _, hc => by simp [chkA] at hc
  | .sl _ _ _, _, hc => by simp [chkA] at hc
  | .call _ _, _, hc => by simp [chkA] at hc
  | .and _ _, _, hc => by simp [chkA] at hc
  | .or _ _, _, hc => by simp [chkA] at hc
  | .not _, _, hc => by simp [chkA] at hc
  | .ite _ _ _, _, hc => by simp [chkA] at hc
  | .chain _ _ _ _ _, _, hc => by simp [chkA] at hc
  | .comp _ _ _ _ _, _, hc => by simp [chkA] at hc
  | .rng _, _, hc => by simp [chkA] at hc
  | .rng2 _ _, _, hc => by simp [chkA] at hc
theorem ok_tup {a : E} {e : Expr} (h : chkTup f a e = true) : Snd X cf (.tup a) e := by
  cases e with
  | Tuple es j pos =>
    simp only [chkTup, Bool.and_eq_true] at h
    obtain ⟨p, n, hn, _⟩ := ok_args IH h.1
    rw [hn] at h
    exact snd_tup p hn (by simpa using h.2)
  | _ => simp [chkTup] at h
theorem ok_lst {a : E} {e : Expr} (h : chkLst f a e = true) : Snd X cf (.lst a) e := by
  cases e with
  | List es pos =>
    simp only [chkLst, Bool.and_eq_true] at h
    obtain ⟨p, n, hn, _⟩ := ok_args IH h.1
    rw [hn] at h
    exact snd_lst p hn (by simpa using h.2)
  | _ => simp [chkLst] at h
theorem cmp_ok (g : Good X k cf Gam) {o : Op2} {op : CmpOp} (h : cmpB o op = true) : OpR X (compareOp op) (rOp2 X.K o) ∧ ∀ p q r, opF2 o p q = some r → ∃ b, r = .bool b := by
  have hu := g.units
  have bl : ∀ (x : Option Bool) (f : Bool → Bool) (r : PV), bnd x (fun b => some (PyData.bool (f b))) = some r → ∃ b, r = .bool b := fun x f r e => by
    obtain ⟨b, _, e2⟩ := bnd_eq.mp e
    cases e2
    exact ⟨_, rfl⟩
  have ci : ∀ (f : Int → Int → Bool) (p q r : PV), cmpI f p q = some r → ∃ b, r = .bool b := fun f p q r e => by
    cases p <;> cases q <;> simp at e
    exact ⟨_, e.symm⟩
  have h' : cmpO o = some op := of_decide_eq_true h
  cases o with
  | eq => cases (show some CmpOp.Eq = some op from h'); exact ⟨s_eq hu, fun p q r e => bl _ id r e⟩
  | ne => cases (show some CmpOp.NotEq = some op from h'); exact ⟨s_ne hu, fun p q r e => bl _ not r e⟩
  | inn => cases (show some CmpOp.In = some op from h'); exact ⟨s_in hu, fun p q r e => bl _ id r e⟩
  | nin => cases (show some CmpOp.NotIn = some op from h'); exact ⟨s_nin hu, fun p q r e => bl _ not r e⟩
  | le => cases (show some CmpOp.LtE = some op from h'); exact ⟨s_le, fun p q r e => ci _ p q r e⟩
  | gt => cases (show some CmpOp.Gt = some op from h'); exact ⟨s_gt, fun p q r e => ci _ p q r e⟩
  | ge => cases (show some CmpOp.GtE = some op from h'); exact ⟨s_ge, fun p q r e => ci _ p q r e⟩
  | lt =>
    cases (show some CmpOp.Lt = some op from h')
    refine ⟨s_lt hu, fun p q r e => ?_⟩
    cases p <;> cases q <;> simp at e
    · exact ⟨_, e.symm⟩
    · obtain ⟨_, _, e⟩ := bnd_eq.mp e
      obtain ⟨_, _, e⟩ := bnd_eq.mp e
      cases e
      exact ⟨_, rfl⟩
  | _ => cases h'
theorem ok_op2 (g : Good X k cf Gam) {o : Op2} {a b : E} {e : Expr} (h : chkOp2 f o a b e = true) : Snd X cf (.op2 o a b) e := by
  unfold chkOp2 at h
  split at h
  · rename_i x op y pos
    simp only [Bool.and_eq_true] at h
    obtain ⟨⟨h1, h2⟩, h3⟩ := h
    have A := (IH a x h2).pe
    have B := (IH b y h3).pe
    have h' : binO o = some op := of_decide_eq_true h1
    cases o with
    | add => cases (show some Operator.Add = some op from h'); exact snd_bin s_add A B
    | sub => cases (show some Operator.Sub = some op from h'); exact snd_bin s_sub A B
    | fdiv => cases (show some Operator.FloorDiv = some op from h'); exact snd_bin s_fdiv A B
    | mod => cases (show some Operator.Mod = some op from h'); exact snd_bin s_mod A B
    | mul => cases (show some Operator.Mult = some op from h'); exact snd_bin s_mul A B
    | _ => cases h'
  · rename_i x op y pos
    simp only [Bool.and_eq_true, Bool.not_eq_true'] at h
    obtain ⟨⟨⟨h1, h2⟩, h3⟩, h4⟩ := h
    obtain ⟨c1, c2⟩ := cmp_ok IH g h1
    exact snd_cmp c1 c2 (IH a x h3).pe (IH b y h4).pe h2
  · rename_i x y pos
    simp only [Bool.and_eq_true, beq_iff_eq] at h
    obtain ⟨⟨⟨h1, h2⟩, h3⟩, h4⟩ := h
    subst h1
    exact snd_ix (IH a x h3).pe (IH b y h4).pe h2
  · rename_i s j p0 m apos y pos
    simp only [Bool.and_eq_true, beq_iff_eq, decide_eq_true_eq] at h
    obtain ⟨⟨⟨⟨⟨⟨⟨h1, h2⟩, h3⟩, h4⟩, h5⟩, h6⟩, h7⟩, h8⟩ := h
    subst h1 h2
    cases a with
    | con p =>
      cases pvB_eq (show pvB p (.str s) = true from h3)
      exact snd_join h4 h5 (IH b y h8).pe h6 (by rw [h7]; simp)
    | _ => exact absurd (show false = true from h3) Bool.false_ne_true
  · cases h
theorem ok_op1 (g : Good X k cf Gam) {o : Op1} {a : E} {e : Expr} (h : chkOp1 Gam X.env.scope.names f o a e = true) : Snd X cf (.op1 o a) e := by
  unfold chkOp1 at h
  split at h
  · rename_i x p y pos
    simp only [Bool.and_eq_true] at h
    obtain ⟨⟨h1, h2⟩, h3⟩ := h
    have A := (IH a y h3).pe
    cases hb : bltFn o with
    | none => rw [hb] at h1; cases h1
    | some z =>
      rw [hb] at h1
      obtain ⟨rfl, gl, o1, o3, hm⟩ := bltB_of g (show bltB Gam X.env.scope.names x z = true from h1)
      cases o with
      | len => cases (show some ("len" : Str) = some x from hb); exact snd_callB s_len gl hm boot_len o3 o1 A h2
      | toTuple => cases (show some ("tuple" : Str) = some x from hb); exact snd_callT s_toTuple gl hm PyProof.Rows.boot_tuple o3 o1 A h2
      | toList => cases (show some ("list" : Str) = some x from hb); exact snd_callT s_toList gl hm PyProof.Rows.boot_list o3 o1 A h2
      | toInt => cases (show some ("int" : Str) = some x from hb); exact snd_callT s_toInt gl hm PyProof.Rows.boot_int o3 o1 A h2
      | _ => cases hb
  · rename_i x p y t p2 pos
    simp only [Bool.and_eq_true] at h
    obtain ⟨⟨⟨h0, h1⟩, h2⟩, h3⟩ := h
    have A := (IH a y h3).pe
    obtain ⟨rfl, gl0, _, _, hm0⟩ := bltB_of g h0
    cases hb : kindT o with
    | none => rw [hb] at h1; cases h1
    | some z =>
      rw [hb] at h1
      obtain ⟨et, gl, o1, o3, hm⟩ := bltB_of g (show bltB Gam X.env.scope.names t z = true from h1)
      have fin : ∀ {T : String}, CallR X (.builtin "isinstance") (rIsi X.K o T) → bootBuiltins (T : Str) = some (.type T) → z = T → Snd X cf (.op1 o a) (.Call (.Name "isinstance" p) [y, .Name t p2] [] pos) := fun {T} hc hv ez => by
        subst ez
        rw [et] at gl hm o3 o1 ⊢
        exact snd_isi hc gl0 hm0 gl hm hv o3 o1 A h2
      cases o with
      | isTup => exact fin isi_tuple PyProof.Rows.boot_tuple (Option.some.inj hb).symm
      | isList => exact fin isi_list PyProof.Rows.boot_list (Option.some.inj hb).symm
      | isInt => exact fin isi_int PyProof.Rows.boot_int (Option.some.inj hb).symm
      | isBool => exact fin isi_bool PyProof.Rows.boot_bool (Option.some.inj hb).symm
      | isStr => exact fin isi_str PyProof.Rows.boot_str (Option.some.inj hb).symm
      | _ => cases hb
  · rename_i y pos
    simp only [Bool.and_eq_true, beq_iff_eq] at h
    obtain ⟨rfl, h2⟩ := h
    exact snd_neg (IH a y h2).pe
  · rename_i y j p2 pos
    simp only [Bool.and_eq_true, beq_iff_eq] at h
    obtain ⟨rfl, h2⟩ := h
    exact snd_is s_isN (.inl rfl) (IH a y h2).pe rfl
  · rename_i y j p2 pos
    simp only [Bool.and_eq_true, beq_iff_eq] at h
    obtain ⟨rfl, h2⟩ := h
    exact snd_is s_notN (.inr rfl) (IH a y h2).pe rfl
  · cases h
theorem ok_part {ie : E} {e : Option Expr} (h : chkP f ie e = true) : PO X e (tP cf X.K ie) := by
  cases e with
  | some e =>
    simp only [chkP, Bool.and_eq_true, Bool.not_eq_true'] at h
    exact part_some (IH ie e h.2).pe h.1
  | none =>
    cases ie with
    | con p =>
      cases p with
      | none => exact part_none
      | _ => simp [chkP] at h
    | _ => simp [chkP] at h
theorem ok_sl {a lo hi : E} {e : Expr} (h : chkSl f a lo hi e = true) : Snd X cf (.sl a lo hi) e := by
  unfold chkSl at h
  split at h
  · simp only [Bool.and_eq_true] at h
    exact snd_sl (IH _ _ h.1.1).pe (ok_part IH h.1.2) (ok_part IH h.2)
  · cases h
theorem ok_call (g : Good X k cf Gam) {id : Nat} {a : E} {e : Expr} (h : chkCall Gam X.env.scope.names f id a e = true) : Snd X cf (.call id a) e := by
  unfold chkCall at h
  split at h
  · rename_i x p y ys pos
    simp only [Bool.and_eq_true, List.any_eq_true, beq_iff_eq] at h
    obtain ⟨⟨⟨⟨h1, h2⟩, h3⟩, h4⟩, r, hr, ⟨h5, h6⟩, h7⟩ := h
    obtain ⟨gl, o1, o3⟩ := glB_of h1
    obtain ⟨x', id', n'⟩ := r
    dsimp only at h5 h6 h7
    subst h5 h6
    obtain ⟨fa, fd, ps, hl, hm, hk, hb, F⟩ := g.fns x' id' n' hr
    obtain ⟨pa, _⟩ := ok_args IH h4
    exact snd_call F g.room gl hm hk hb pa (by rw [h7, hl]) o1 h2 h3
  · cases h
theorem ok_bool : ∀ {op : BoolOp} {ie : E} {es : List Expr} {pos : Pos}, chkB f op ie es = true → SndB X cf op ie es pos
  | op, ie, [e], pos, h => by
    have h' : f ie e = true := by
      unfold chkB at h
      exact h
    exact sndb_one (IH ie e h')
  | op, ie, e :: e2 :: r, pos, h => by
    cases ie with
    | and a b =>
      simp only [chkB, Bool.and_eq_true, Bool.not_eq_true', beq_iff_eq] at h
      obtain ⟨⟨⟨⟨rfl, h1⟩, h2⟩, h3⟩, h4⟩ := h
      exact sndb_and (IH a e h3) h1 (ok_bool h4) h2
    | or a b =>
      simp only [chkB, Bool.and_eq_true, Bool.not_eq_true', beq_iff_eq] at h
      obtain ⟨⟨⟨⟨rfl, h1⟩, h2⟩, h3⟩, h4⟩ := h
      exact sndb_or (IH a e h3) h1 (ok_bool h4) h2
    | _ => simp [chkB] at h
  | op, ie, [], pos, h => by cases ie <;> simp [chkB] at h
theorem ok_and {a b : E} {e : Expr} (h : chkAnd f a b e = true) : Snd X cf (.and a b) e := by
  unfold chkAnd at h
  split at h
  · exact (ok_bool IH h).snd
  · cases h
theorem ok_or {a b : E} {e : Expr} (h : chkOr f a b e = true) : Snd X cf (.or a b) e := by
  unfold chkOr at h
  split at h
  · exact (ok_bool IH h).snd
  · cases h
theorem ok_not {a : E} {e : Expr} (h : chkNot f a e = true) : Snd X cf (.not a) e := by
  unfold chkNot at h
  split at h
  · exact snd_not (IH _ _ h)
  · cases h
theorem ok_ite {c a b : E} {e : Expr} (h : chkIte f c a b e = true) : Snd X cf (.ite c a b) e := by
  unfold chkIte at h
  split at h
  · rename_i t x y pos
    simp only [Bool.and_eq_true, Bool.not_eq_true'] at h
    obtain ⟨⟨⟨⟨h1, h2⟩, h3⟩, h4⟩, h5⟩ := h
    refine ⟨snd_ite (IH _ _ h1) (IH _ _ h2) (IH _ _ h3) h4 h5, fun pins s σ H Q I hq => ?_⟩
    obtain ⟨G, ρ, p, d, S, e, et, k⟩ := hq
    obtain ⟨z, e1, e2⟩ := bnd_eq.mp (show bnd (evE cf c ρ) (fun x => bnd (truthF x) fun t => if t then evE cf a ρ else evE cf b ρ) = some p from e)
    obtain ⟨w, e3, e4⟩ := bnd_eq.mp e2
    refine isTrue_IfExp (thn ((IH _ _ h1).pt pins s σ H (fun v H1 => v = w ∧ ∃ G1, Ext G H G1 H1) I ⟨G, ρ, z, w, S, e1, e3, fun G1 H1 x1 => ⟨rfl, G1, x1⟩⟩) fun v s1 ⟨H1, I1, hv, G1, x1⟩ => ?_)
    subst hv
    cases v with
    | true => exact (IH _ _ h2).pt pins s1 σ H1 Q I1 ⟨G1, ρ, p, d, S.ext x1, e4, et, fun G2 H2 x2 => k G2 H2 (x1.trans x2)⟩
    | false => exact (IH _ _ h3).pt pins s1 σ H1 Q I1 ⟨G1, ρ, p, d, S.ext x1, e4, et, fun G2 H2 x2 => k G2 H2 (x1.trans x2)⟩
  · cases h
theorem ok_chain (g : Good X k cf Gam) {o o' : Op2} {a b c : E} {e : Expr} (h : chkChain f o o' a b c e = true) : Snd X cf (.chain o o' a b c) e := by
  unfold chkChain at h
  split at h
  · simp only [Bool.and_eq_true, Bool.not_eq_true'] at h
    obtain ⟨⟨⟨⟨⟨h1, h2⟩, h3⟩, h4⟩, h5⟩, h6⟩ := h
    obtain ⟨a1, a2⟩ := cmp_ok IH g h1
    obtain ⟨b1, b2⟩ := cmp_ok IH g h2
    exact snd_chain a1 b1 a2 b2 (IH _ _ h4).pe (IH _ _ h5).pe (IH _ _ h6).pe h3
  · cases h
theorem ok_iter (g : Good X k cf Gam) {tg : Expr} {ie : E} {e : Expr} (h : chkI Gam X.env.scope.names f ie e = true) : PI X tg e (tI cf X.K ie) := by
  unfold chkI at h
  split at h
  · rename_i a x p y pos
    simp only [Bool.and_eq_true, Bool.not_eq_true'] at h
    obtain ⟨⟨⟨h1, h2⟩, h3⟩, h4⟩ := h
    obtain ⟨rfl, gl, _, _, hm⟩ := bltB_of g h1
    exact it_rng (IH _ _ h4).pe h2 h3 gl hm
  · simp only [Bool.and_eq_true, Bool.not_eq_true'] at h
    exact it_seq (IH _ _ h.2).pe h.1.1
theorem folded_of {e : Expr} {env : PySem.Env} (h : notSet e = true) : ∀ x, foldedSetIterable e env x = pure x := foldedSet_of (by cases e <;> first | rfl | exact absurd (show false = true from h) Bool.false_ne_true)
end
end DD
set_option Elab.async false
set_option linter.all false
set_option maxRecDepth 100000
set_option maxHeartbeats 1000000
namespace DD
open PySem PySem.Spec PyProof.Rows L2

theorem Good.blk {X X' : Cx} {k : Nat} {cf : CF} {Gam : Info} {N' : List Str} {scope : Scope} (g : Good X k cf Gam) (b : Blk X N' scope X') : Good X' k cf Gam := by
  refine ⟨b.calm, b.xe, by rw [b.A]; exact g.room, fun x id n h => ?_, fun x p h => ?_, fun x h => by rw [b.mg]; exact g.blts x h⟩
  · obtain ⟨fa, fd, ps, h1, h2, h3, h4, h5⟩ := g.fns x id n h
    exact ⟨fa, fd, ps, h1, by rw [b.mg]; exact h2, by rw [b.K]; exact h3, by rw [b.K]; exact h4, by rw [b.prog, b.w, b.K, b.mg, b.base]; exact h5⟩
  · obtain ⟨u, v, h1, h2, h3⟩ := g.consts x p h
    exact ⟨u, v, by rw [b.mg]; exact h1, h2, by rw [b.K]; exact h3⟩
theorem relB_eq {scope : Scope} {env : PySem.Env} (hk : env.scope.kind = .function) : (relabel scope env).names = relB env.scope.names scope.names := by
  unfold relabel relB
  dsimp only
  congr 1
  funext x
  obtain ⟨n, k⟩ := x
  dsimp only
  have e : (env.scope.kind == .function) = true := by rw [hk]; rfl
  rw [e, Bool.and_true]
  rfl
theorem relB_local {nm names : Nms} {x : Str} (h : names.lookup x = some .local) : (relB nm names).lookup x = some .local := by
  unfold relB
  have := lookup_map (fun (y : Str × NameKind) => match y with | (n, k) => if (k == .free && nm.lookup n == some .cell) then (n, NameKind.cell) else (n, k)) (fun n k => by dsimp only; split <;> rfl) names x
  refine this.trans ?_
  rw [h]
  rfl

/-! ### a block's target -/
theorem names_of : ∀ {es : List Expr} {own : List Str}, (es.mapM fun e => match e with | .Name x _ => some x | _ => none) = some own → ∃ ps : List Pos, ps.length = own.length ∧ es = (own.zip ps).map fun q => Expr.Name q.1 q.2
  | [], own, h => by
    cases (show some [] = some own from h)
    exact ⟨[], rfl, rfl⟩
  | e :: es, own, h => by
    rw [List.mapM_cons] at h
    cases e with
    | Name x pos =>
      cases hm : (es.mapM fun e => match e with | .Name x _ => some x | _ => none) with
      | none => rw [hm] at h; cases h
      | some r =>
        rw [hm] at h
        cases (show some (x :: r) = some own from h)
        obtain ⟨ps, h1, h2⟩ := names_of hm
        exact ⟨pos :: ps, by simp [h1], by rw [h2]; rfl⟩
    | _ => cases h
section
variable {X' : Cx}
/-- a target of names: the values from the left -/
def gNames : Nat → Nat → TGs
  | _, 0 => gNil
  | i, n + 1 => gCons (gName i) (gNames (i + 1) n)
theorem pg_names {N : List Str} (hN : X'.N.Nodup) : ∀ (own : List Str) (ps : List Pos) (i : Nat), ps.length = own.length → (∀ (j : Nat) (x : Str), own[j]? = some x → X'.N[i + j]? = some x ∧ X'.env.scope.names.lookup x = some .local) →
    PGs X' ((own.zip ps).map fun q => Expr.Name q.1 q.2) (gNames i own.length)
  | [], ps, i, hl, h => by
    have : ps = [] := List.length_eq_zero_iff.mp hl
    subst this
    exact pgs_nil
  | x :: own, [], i, hl, h => by cases hl
  | x :: own, p :: ps, i, hl, h => by
    obtain ⟨h1, h2⟩ := h 0 x rfl
    refine pgs_cons (pg_name hN h1 (.inl h2) (.inr h2)) (pg_names (N := N) hN own ps (i + 1) (by simpa using hl) fun j y e => ?_) rfl
    have := h (j + 1) y (by simpa using e)
    rw [show i + (j + 1) = i + 1 + j from by omega] at this
    exact this
theorem gNames_ok {Q : St → Hp → Prop} {H : Hp} : ∀ (vs : List V) (σ : St) (i : Nat), i + vs.length ≤ σ.length → Q (σ.take i ++ (vs.map some ++ σ.drop (i + vs.length))) H → gNames i vs.length vs σ H Q
  | [], σ, i, hl, h => by
    refine ⟨rfl, ?_⟩
    have e : σ.take i ++ (([] : List V).map some ++ σ.drop (i + ([] : List V).length)) = σ := by simp
    rw [e] at h
    exact h
  | v :: vs, σ, i, hl, h => by
    refine ⟨v, vs, rfl, gNames_ok vs (σ.set i (some v)) (i + 1) (by simp at hl ⊢; omega) ?_⟩
    have hi : i < σ.length := by simp at hl; omega
    have e : (σ.set i (some v)).take (i + 1) ++ (vs.map some ++ (σ.set i (some v)).drop (i + 1 + vs.length)) = σ.take i ++ ((v :: vs).map some ++ σ.drop (i + (v :: vs).length)) := by
      rw [List.take_succ_eq_append_getElem (by simpa using hi), List.take_set_of_le (Nat.le_refl _), List.getElem_set_self, List.drop_set_of_lt (by omega), List.append_assoc]
      simp [show i + 1 + vs.length = i + (vs.length + 1) from by omega]
    rw [e]
    exact h
end

/-- all that a comprehension's rules ask -/
structure CompOk (X : Cx) (cf : CF) (tg : Option Nat) (caps : List Nat) (it cond elt : E) (y tgt iter : Expr) (ifs : List Expr) (scope : Scope) (own : List Str) : Prop where
  cs : CScope X own caps scope
  hd : caps.Nodup
  hown : own.length = tg.getD 1
  hpk : isPeek elt = false
  hit : PI X tgt iter (tI cf X.K it)
  hfs : ∀ x, foldedSetIterable iter X.env x = pure x
  B : BlkOk X cf own caps scope tg tgt ifs y cond elt
section
variable {X : Cx} {cf : CF} {k : Nat} {Gam : Info} {f : E → Expr → Bool} {gB : List Str → Nms → E → Expr → Bool}
theorem comp_data (g : Good X k cf Gam) (hkind : X.env.scope.kind = .function) (IH : ∀ ie e, f ie e = true → Snd X cf ie e)
    (IHB : ∀ X', Good X' k cf Gam → X'.env.scope.kind = .function → ∀ ie e, gB X'.N X'.env.scope.names ie e = true → Snd X' cf ie e) {tg : Option Nat} {caps : List Nat} {it cond elt : E} {y tgt iter : Expr} {ifs : List Expr} {z : Int} {scope : Scope} {pos : Pos}
    (h : chkComp Gam X.N X.env.scope.names f gB tg caps it cond elt (.ListComp y [⟨tgt, iter, ifs, z⟩] scope pos) = true) : z = 0 ∧ ∃ own, CompOk X cf tg caps it cond elt y tgt iter ifs scope own := by
  simp only [chkComp] at h
  cases hn : tgNames tg tgt with
  | none => rw [hn] at h; cases h
  | some own =>
    rw [hn] at h
    simp only [Bool.and_eq_true, beq_iff_eq, Bool.not_eq_true'] at h
    obtain ⟨⟨⟨⟨⟨⟨h1, h2⟩, h3⟩, h4⟩, h5⟩, h6⟩, h7⟩ := h
    refine ⟨h1, own, ?_⟩
    simp only [scopeB, Bool.and_eq_true, beq_iff_eq, List.all_eq_true, Bool.or_eq_true, bne_iff_ne, decide_eq_true_eq] at h2
    obtain ⟨⟨⟨⟨⟨⟨⟨s1, s2⟩, s3⟩, s4⟩, s5⟩, s6⟩, s7⟩, s8⟩ := h2
    have cs : CScope X own caps scope := by
      refine ⟨s1, fun x hx => s2 x hx, fun x hx e => ?_, fun x hx e => ?_, fun j hj => ?_⟩
      · rcases s3 x hx with q | q
        · exact absurd e q
        · exact q
      · rcases s4 x hx with (q | q) | q
        · exact absurd e q
        · exact .inl q
        · exact .inr q
      · have := s5 j hj
        cases q : X.N[j]? with
        | none => rw [q] at this; cases this
        | some y =>
          rw [q] at this
          simp only [Bool.and_eq_true, beq_iff_eq] at this
          exact ⟨y, rfl, visB_of this.1, this.2⟩
    have hown : own.length = tg.getD 1 := by
      cases tg with
      | none =>
        cases tgt with
        | Name x p => cases (show some [x] = some own from hn); rfl
        | _ => cases hn
      | some n =>
        cases tgt with
        | Tuple es j p =>
          simp only [tgNames] at hn
          split at hn
          · rename_i hl
            obtain ⟨ps, h1, h2⟩ := names_of hn
            have : es.length = own.length := by rw [h2]; simp [h1]
            rw [← this]; exact hl
          · cases hn
        | _ => cases hn
    have kx : ∀ X', Blk X (namesC X own caps) scope X' → X'.N = own ++ caps.map (fun j => X.N.getD j "") ∧ X'.env.scope.names = relB X.env.scope.names scope.names ∧ X'.env.scope.kind = .function := fun X' b =>
      ⟨b.N, by rw [b.sc]; exact relB_eq hkind, by rw [b.sc]; exact s1⟩
    refine ⟨cs, s6, hown, h5, ok_iter IH g h4, folded_of IH h3, ⟨fun X' b => ?_, fun X' b => ?_, fun X' b => ?_⟩⟩
    · obtain ⟨kN, kS, kK⟩ := kx X' b
      have nd : X'.N.Nodup := by rw [kN]; exact s8
      have pl : ∀ (j : Nat) (x : Str), own[j]? = some x → X'.N[0 + j]? = some x ∧ X'.env.scope.names.lookup x = some .local := fun j x e => by
        refine ⟨?_, ?_⟩
        · rw [kN, Nat.zero_add, List.getElem?_append_left (List.getElem?_eq_some_iff.mp e).1]; exact e
        · rw [kS]; exact relB_local (s7 x (List.mem_of_getElem? e)).1
      cases tg with
      | none =>
        cases tgt with
        | Name x p =>
          cases (show some [x] = some own from hn)
          obtain ⟨p1, p2⟩ := pl 0 x rfl
          have pg := pg_name (pos := p) nd p1 (.inl p2) (.inr p2)
          intro pins s σ H v u Q I r hq
          obtain ⟨hl, _, hq⟩ := hq
          refine pg pins s σ H v u Q I r ?_
          show Q (σ.set 0 (some v)) H
          cases σ with
          | nil => cases hl
          | cons o σ => exact hq
        | _ => cases hn
      | some n =>
        cases tgt with
        | Tuple es j p =>
          simp only [tgNames] at hn
          split at hn
          · rename_i hl
            obtain ⟨ps, l1, l2⟩ := names_of hn
            have hes : es.length = own.length := by rw [l2]; simp [l1]
            have pgs := pg_names (N := X'.N) nd own ps 0 l1 pl
            rw [← l2] at pgs
            have as1 : ∀ (l : List Expr) (qs : List Pos) (ow : List Str), qs.length = ow.length → l = (ow.zip qs).map (fun q => Expr.Name q.1 q.2) → (assignEach l X'.env).length = l.length ∧ (assignEach l X'.env).findIdx? (·.1) = none := by
              intro l
              induction l with
              | nil => intro _ _ _ _; exact ⟨rfl, rfl⟩
              | cons e l ih =>
                intro qs ow hq he
                cases ow with
                | nil => cases he
                | cons w ow =>
                  cases qs with
                  | nil => cases hq
                  | cons q qs =>
                    cases he
                    obtain ⟨i1, i2⟩ := ih qs ow (by simpa using hq) rfl
                    refine ⟨?_, ?_⟩
                    · show ((assignEach _ X'.env).length + 1) = _
                      rw [i1]; rfl
                    · show List.findIdx? _ ((false, _) :: assignEach _ X'.env) = none
                      rw [List.findIdx?_cons, i2]
                      rfl
            obtain ⟨a1, a2⟩ := as1 es ps own l1 l2
            have pg := pg_tup (X := X') (pos := p) (k := j) b.calm pgs (a1.trans hl) a2
            intro pins s σ H v u Q I r hq
            obtain ⟨hlen, a, xs, rfl, q, lx, _, hq⟩ := hq
            refine pg pins s σ H _ u Q I r ⟨a, xs, rfl, by rw [b.K]; exact q, lx, ?_⟩
            have eo : own.length = xs.length := by omega
            rw [eo] at hlen hq ⊢
            exact gNames_ok xs σ 0 (by omega) (by simpa using hq)
          · cases hn
        | _ => cases hn
    · obtain ⟨kN, kS, kK⟩ := kx X' b
      intro pins s σ H Q I hq
      have e1 := b.prog
      have e2 := b.w
      have e3 := b.A
      cases ifs with
      | nil =>
        obtain ⟨G, ρ, p, t, S, e, et, kq⟩ := hq
        cases cond with
        | con q =>
          cases q with
          | bool c =>
            cases c with
            | true =>
              cases (show some (PyData.bool true) = some p from e)
              have et' : true = t := Option.some.inj et
              subst et'
              exact wpAny_tests_nil ⟨H, I, kq G H (.refl S.sub)⟩
            | false => cases h7
          | _ => cases h7
        | _ => cases h7
      | cons c cs' =>
        cases cs' with
        | nil =>
          have sn := IHB X' (g.blk b) kK cond c (by rw [kN, kS]; exact h7)
          have := sn.pt pins s σ H Q I (by rw [b.K]; exact hq)
          rw [e1, e2, e3, b.xe] at this
          exact wpAny_tests_one this
        | cons _ _ => cases h7
    · obtain ⟨kN, kS, kK⟩ := kx X' b
      have := (IHB X' (g.blk b) kK elt y (by rw [kN, kS]; exact h6)).pe
      rw [b.K] at this
      exact this
theorem ok_comp (g : Good X k cf Gam) (hkind : X.env.scope.kind = .function) (IH : ∀ ie e, f ie e = true → Snd X cf ie e)
    (IHB : ∀ X', Good X' k cf Gam → X'.env.scope.kind = .function → ∀ ie e, gB X'.N X'.env.scope.names ie e = true → Snd X' cf ie e) {tg : Option Nat} {caps : List Nat} {it cond elt : E} {e : Expr}
    (h : chkComp Gam X.N X.env.scope.names f gB tg caps it cond elt e = true) : Snd X cf (.comp tg caps it cond elt) e := by
  have h0 := h
  unfold chkComp at h
  split at h
  · rename_i y tgt iter ifs z scope pos
    obtain ⟨rfl, own, c⟩ := comp_data g hkind IH IHB h0
    exact .plain (pe_comp g.calm c.cs c.hd c.hown c.hpk c.hit c.hfs c.B) (fun _ => rfl)
  · cases h
end

/-- THE CHECK IS SOUND -/
theorem chk_ok {cf : CF} {k : Nat} {Gam : Info} : ∀ (n : Nat) (X : Cx), Good X k cf Gam → X.env.scope.kind = .function → ∀ ie e, chkE Gam n X.N X.env.scope.names ie e = true → Snd X cf ie e
  | 0, X, g, hk, ie, e, h => by cases h
  | n + 1, X, g, hk, ie, e, h => by
    have IH := chk_ok n X g hk
    have IHB := fun X' g' hk' => chk_ok (cf := cf) (k := k) (Gam := Gam) n X' g' hk'
    cases ie with
    | var i => exact (ok_var h).1
    | peek i => exact (ok_var h).2
    | con p => exact ok_con g h
    | nil => cases h
    | cons _ _ => cases h
    | tup a => exact ok_tup IH h
    | lst a => exact ok_lst IH h
    | op1 o a => exact ok_op1 IH g h
    | op2 o a b => exact ok_op2 IH g h
    | sl a lo hi => exact ok_sl IH h
    | call f a => exact ok_call IH g h
    | and a b => exact ok_and IH h
    | or a b => exact ok_or IH h
    | not a => exact ok_not IH h
    | ite c a b => exact ok_ite IH h
    | chain o o' a b c => exact ok_chain IH g h
    | comp tg caps it cond elt => exact ok_comp g hk IH IHB h
    | rng _ => cases h
    | rng2 _ _ => cases h
end DD
set_option Elab.async false
set_option linter.all false
set_option maxRecDepth 100000
set_option maxHeartbeats 1000000
namespace DD
open PySem PySem.Spec PyProof.Rows L2

def locB (nm : Nms) (x : Str) : Bool := nm.lookup x == some .local || nm.lookup x == some .cell
def notComp : Expr → Bool
  | .ListComp .. => false
  | .SetComp .. => false
  | .DictComp .. => false
  | _ => true
theorem swaps_no {e : Expr} (h : notComp e = true) (t : Option Expr) (l : Nat) (env : PySem.Env) : swapsWith e t l env = pure false := by
  cases e <;> first | rfl | exact absurd (show false = true from h) Bool.false_ne_true
theorem swaps_comp (y : Expr) (gs : List Comprehension) (scope : Scope) (pos p : Pos) (x : Str) (l : Nat) (env : PySem.Env) : ∃ b : Bool, swapsWith (.ListComp y gs scope pos) (some (.Name x p)) l env = pure b ∧ (b = true → env.kindOf x = some .local) := by
  refine ⟨env.blockKind == .function && env.kindOf x == some .local && p.line == (Expr.ListComp y gs scope pos).pos.line && !(scope.names.any fun (n, k) => n == x && (k == .local || k == .cell)), rfl, fun h => ?_⟩
  simp only [Bool.and_eq_true, beq_iff_eq] at h
  exact h.1.1.2
section
variable (Gam : Info) (N : List Str) (nm : Nms) (f : E → Expr → Bool) (gB : List Str → Nms → E → Expr → Bool)
def setB (i : Nat) (ie : E) (x : Str) (v : Expr) : Bool := N[i]? == some x && locB nm x && !isPeek ie &&
  (match v with
    | .ListComp .. => (match ie with | .comp tg caps it cond elt => chkComp Gam N nm f gB tg caps it cond elt v | _ => false)
    | v => notComp v && f ie v)
def ownB (i : Nat) (ie : E) (x : Str) (es : List Expr) : Bool := N[i]? == some x && locB nm x &&
  (match ie with | .lst a => chkA f a es && (argN a).any (· ≤ 1000) | _ => false)
def tgB : Tg → Expr → Bool
  | .one i, .Name x _ => N[i]? == some x && locB nm x
  | _, _ => false
def chkS (fB : S → List Stmt → Bool) : S → Stmt → Bool
  | .set i ie, .Assign [.Name x _] v _ => setB Gam N nm f gB i ie x v
  | .own i ie, .Assign [.Name x _] (.List es _) _ => ownB N nm f i ie x es
  | .ret ie, .Return (some v) _ => !isPeek ie && f ie v
  | .ife c a b, .If t x y _ => f c t && fB a x && fB b y
  | .loop t it b, .For tgt iter body [] _ => tgB N nm t tgt && notSet iter && chkI Gam nm f it iter && fB b body
  | .app i ie, .Expr (.Call (.Attribute (.Name x _) m apos) [v] [] cpos) _ => m == "append" && N[i]? == some x && visB nm x && okN x && !isPeek ie && plainE v && apos.endLine == cpos.line && f ie v
  | .brk, .Break _ => true
  | .cnt, .Continue _ => true
  | .nx, .Pass _ => true
  | _, _ => false
end
def isDoc : Stmt → Bool
  | .Expr (.Constant (.str _) _ _) _ => true
  | _ => false
def chkSs (fS : S → Stmt → Bool) : S → List Stmt → Bool
  | .nx, [] => true
  | .seq (.frz _) b, sts => chkSs fS b sts
  | .seq a b, st :: rest => fS a st && chkSs fS b rest
  | a, [st] => fS a st
  | _, _ => false
def chkBody (Gam : Info) (m : Nat) : Nat → List Str → Nms → S → List Stmt → Bool
  | 0, _, _, _, _ => false
  | n + 1, N, nm, is, sts => chkSs (chkS Gam N nm (chkE Gam m N nm) (chkE Gam m) (chkBody Gam m n N nm)) is sts

section
variable {X : Cx} {cf : CF} {k : Nat} {Gam : Info} {m : Nat}
theorem locB_of {x : Str} (h : locB X.env.scope.names x = true) : Loc X.env.scope x := by
  simp only [locB, Bool.or_eq_true, beq_iff_eq] at h
  exact h
theorem ok_stmt (g : Good X k cf Gam) (hk : X.env.scope.kind = .function) (hN : X.N.Nodup) (hfn : ∀ x, X.fn x = true) {fB : S → List Stmt → Bool} (IHB : ∀ is sts, fB is sts = true → PSs X sts (tS cf X.K is)) {is : S} {st : Stmt}
    (h : chkS Gam X.N X.env.scope.names (chkE Gam m X.N X.env.scope.names) (chkE Gam m) fB is st = true) : PS X st (tS cf X.K is) := by
  have IH := chk_ok (cf := cf) (k := k) (Gam := Gam) m X g hk
  have IHX := fun X' g' hk' => chk_ok (cf := cf) (k := k) (Gam := Gam) m X' g' hk'
  unfold chkS at h
  split at h
  · rename_i i ie x p v pos
    simp only [setB, Bool.and_eq_true, beq_iff_eq, Bool.not_eq_true'] at h
    obtain ⟨⟨⟨h1, h2⟩, h3⟩, h4⟩ := h
    by_cases hc : notComp v = true
    · have hf : chkE Gam m X.N X.env.scope.names ie v = true := by
        cases v <;> first
          | exact absurd (show false = true from hc) Bool.false_ne_true
          | (simp only [Bool.and_eq_true] at h4; exact h4.2)
      exact st_set hN h1 (locB_of h2) (.inl (hfn x)) (IH ie v hf).pe h3 (swaps_no hc _ _ _)
    · cases v with
      | ListComp y gs scope cpos =>
        cases ie with
        | comp tg caps it cond elt =>
          have h5 : chkComp Gam X.N X.env.scope.names (chkE Gam m X.N X.env.scope.names) (chkE Gam m) tg caps it cond elt (.ListComp y gs scope cpos) = true := h4
          have h6 := h5
          unfold chkComp at h6
          split at h6
          · rename_i e1 y' tgt iter ifs z scope' pos' he
            injection he with q1 q2 q3 q4
            subst q1 q2 q3 q4
            obtain ⟨rfl, own, c⟩ := comp_data g hk IH IHX h5
            obtain ⟨b, sw, sl⟩ := swaps_comp _ [⟨tgt, iter, ifs, 0⟩] _ _ p x pos.line X.env
            cases b with
            | false => exact st_set hN h1 (locB_of h2) (.inl (hfn x)) (pe_comp g.calm c.cs c.hd c.hown c.hpk c.hit c.hfs c.B) h3 sw
            | true => exact (ps_comp g.calm c.cs c.hd c.hown c.hpk c.hit c.hfs c.B hN h1 (sl rfl) sw).weak (asg_w rfl)
          · cases h6
        | _ => cases h4
      | _ => first | exact absurd rfl hc | (simp only [Bool.and_eq_true] at h4; exact absurd h4.1 hc)
  · rename_i i ie x p es lp pos
    simp only [ownB, Bool.and_eq_true, beq_iff_eq] at h
    obtain ⟨⟨h1, h2⟩, h3⟩ := h
    cases ie with
    | lst a =>
      simp only [Bool.and_eq_true] at h3
      obtain ⟨pa, n, hn, _⟩ := ok_args IH h3.1
      rw [hn] at h3
      exact st_own hN h1 (locB_of h2) (.inl (hfn x)) pa hn (by simpa using h3.2)
    | _ => cases h3
  · simp only [Bool.and_eq_true, Bool.not_eq_true'] at h
    exact st_ret (IH _ _ h.2).pe h.1
  · simp only [Bool.and_eq_true] at h
    exact st_ife (IH _ _ h.1.1).pt (IHB _ _ h.1.2) (IHB _ _ h.2)
  · rename_i t it b tgt iter body pos
    simp only [Bool.and_eq_true] at h
    obtain ⟨⟨⟨h1, h2⟩, h3⟩, h4⟩ := h
    have pg : PG X tgt (gS X.K t) := by
      unfold tgB at h1
      split at h1
      · simp only [Bool.and_eq_true, beq_iff_eq] at h1
        exact pg_name hN h1.1 (locB_of h1.2) (.inl (hfn _))
      · cases h1
    exact st_loop g.xe g.calm (ok_iter IH g h3) pg (IHB _ _ h4) (folded_of IH h2)
  · rename_i i ie x p mm apos v cpos pos
    simp only [Bool.and_eq_true, beq_iff_eq, Bool.not_eq_true'] at h
    obtain ⟨⟨⟨⟨⟨⟨⟨h1, h2⟩, h3⟩, h4⟩, h5⟩, h6⟩, h7⟩, h8⟩ := h
    subst h1
    obtain ⟨o1, o2, o3⟩ := okN_of h4
    exact st_app h2 (visB_of h3) o1 o2 (IH _ _ h8).pe h5 h6 (by rw [h7]; simp)
  · exact st_brk
  · exact st_cnt
  · exact st_pass
  · cases h
theorem ok_stmts {fS : S → Stmt → Bool} (IH : ∀ is st, fS is st = true → PS X st (tS cf X.K is)) : ∀ (is : S) (sts : List Stmt), chkSs fS is sts = true → PSs X sts (tS cf X.K is) := by
  intro is
  induction is with
  | seq a b iha ihb =>
    intro sts h
    unfold chkSs at h
    split at h
    · rename_i heq; cases heq
    · rename_i i b' sts' heq
      injection heq with q1 q2
      subst q1 q2
      exact ss_frz (ihb _ h)
    · rename_i a' b' st rest _ heq
      injection heq with q1 q2
      subst q1 q2
      simp only [Bool.and_eq_true] at h
      exact ss_cons (IH _ _ h.1) (ihb _ h.2)
    · rename_i a' st hna _ _
      exact ss_one (IH _ _ h)
    · cases h
  | nx =>
    intro sts h
    cases sts with
    | nil => exact ss_nil
    | cons st rest =>
      cases rest with
      | nil => exact ss_one (IH _ _ (by simpa [chkSs] using h))
      | cons _ _ => simp [chkSs] at h
  | _ =>
    intro sts h
    cases sts with
    | nil => simp [chkSs] at h
    | cons st rest =>
      cases rest with
      | nil => exact ss_one (IH _ _ (by simpa [chkSs] using h))
      | cons _ _ => simp [chkSs] at h
theorem ok_body (g : Good X k cf Gam) (hk : X.env.scope.kind = .function) (hN : X.N.Nodup) (hfn : ∀ x, X.fn x = true) : ∀ (n : Nat) (is : S) (sts : List Stmt), chkBody Gam m n X.N X.env.scope.names is sts = true → PSs X sts (tS cf X.K is)
  | 0, is, sts, h => by cases h
  | n + 1, is, sts, h => ok_stmts (fun is st h => ok_stmt (m := m) g hk hN hfn (ok_body g hk hN hfn n) h) is sts h
end
end DD
set_option Elab.async false
set_option linter.all false
set_option maxRecDepth 100000
set_option maxHeartbeats 1000000
namespace DD
open PySem PySem.Spec PyProof.Rows L2

/-- the slots at a def's entry -/
theorem sr_start {K : PySem.W.Frag} {G H : Hp} {N : List Str} {F : Fn} {vs : List V} {ps : List PV} (s : Sub G H) (r : RpL K G ps vs) (h1 : ps.length = F.np) (h2 : N.length = F.ns) (h3 : F.np ≤ F.ns) :
    SR K G H (L2.start N vs) (DD.start F ps) := by
  have hl := r.length
  have noown : ∀ (i : Nat) (sl : Sl), (DD.start F ps)[i]? = some sl → isOwn sl = false := fun i sl e => by
    have hm := List.mem_of_getElem? e
    simp only [DD.start, List.mem_append, List.mem_map, List.mem_replicate] at hm
    rcases hm with ⟨p, _, rfl⟩ | ⟨_, rfl⟩ <;> rfl
  refine ⟨?_, s, fun i sl o e1 e2 => ?_, fun i j si sj a _ e1 _ o1 _ _ => ?_⟩
  · simp only [L2.start, DD.start, List.length_append, List.length_map, List.length_replicate]
    omega
  · simp only [DD.start] at e1
    simp only [L2.start] at e2
    by_cases hi : i < ps.length
    · rw [List.getElem?_append_left (by simpa using hi)] at e1
      rw [List.getElem?_append_left (by simpa using (by omega : i < vs.length))] at e2
      rw [List.getElem?_map] at e1 e2
      obtain ⟨p, ep⟩ : ∃ p, ps[i]? = some p := ⟨_, List.getElem?_eq_getElem hi⟩
      obtain ⟨v, ev, rv⟩ := r.get ep
      rw [ep] at e1; rw [ev] at e2
      cases e1; cases e2
      exact ⟨v, rfl, rv⟩
    · have hm : sl ∈ List.replicate (F.ns - F.np) Sl.un := by
        rw [List.getElem?_append_right (by simpa using hi)] at e1
        exact List.mem_of_getElem? e1
      rw [(List.mem_replicate.mp hm).2]
      trivial
  · have := noown i si e1
    rw [this] at o1; cases o1
/-- a def of the text and its data -/
structure DI where
  x : Str
  id : Nat
  st : Stmt
  N : List Str
  ps : List Str
structure Def1 (K : PySem.W.Frag) (mg : Str → Option Value) (T : Tab) (Gam : Info) (d : DI) (f : Addr) (fd : FuncData) : Prop where
  F : Fun K d.x d.x d.st f fd
  b : Binds K fd d.ps []
  m : mg d.x = some (.ref f)
  S : FnScope d.N d.ps (defScope d.st)
  c : ∃ B, T d.id = some B ∧ d.ps.length = B.np ∧ d.N.length = B.ns ∧ B.np ≤ B.ns ∧ chkBody Gam 200 200 d.N (defScope d.st).names B.body (defBody d.st) = true
theorem spD_len {K : PySem.W.Frag} {n : Nat} {r : List PV → Option PV} : ∀ vs H Q E, spD K n r vs H Q E → vs.length = n := fun _ _ _ _ h => h.1
theorem all_ok {P : Program} {w : World} {K : PySem.W.Frag} {mg : Str → Option Value} {base : Heap} {T : Tab} {Gam : Info}
    (hf : ∀ x id n, (x, id, n) ∈ Gam.fns → ∃ d f fd, d.x = x ∧ d.id = id ∧ d.ps.length = n ∧ Def1 K mg T Gam d f fd)
    (hc : ∀ x p, (x, p) ∈ Gam.consts → ∃ u v, mg x = some u ∧ RelV v u ∧ ∀ G, Rp K G p v) (hb : ∀ x ∈ Gam.blts, mg x = none) :
    ∀ (k : Nat) (d : DI) (f : Addr) (fd : FuncData), Def1 K mg T Gam d f fd → FnOk P w K mg base CX0 k f fd d.ps (spD K d.ps.length (run T k d.id))
  | 0, d, f, fd, D => ⟨spD_len, fun A outer s H args us vs Q E hr e0 hbi hv hsp => by
      obtain ⟨_, G, ps, p, _, _, e, _⟩ := hsp
      cases (show (none : Option PV) = some p from e)⟩
  | k + 1, d, f, fd, D => by
    obtain ⟨B, eB, n1, n2, n3, hchk⟩ := D.c
    refine D.F.ok D.S spD_len fun cdv A outer s H vs Q E hr hsp => ?_
    obtain ⟨hl, G, ps, p, sub, r, e, hQ⟩ := hsp
    have g : Good (cxOf CX0 P w K mg base d.N d.x (defScope d.st) f cdv A outer s H E).nox k (run T k) Gam := by
      refine ⟨rfl, rfl, hr, fun x id n hm => ?_, hc, hb⟩
      obtain ⟨d', f', fd', rfl, rfl, rfl, D'⟩ := hf x id n hm
      exact ⟨f', fd', d'.ps, rfl, D'.m, D'.F.kp, D'.b, all_ok hf hc hb k d' f' fd' D'⟩
    refine ⟨_, ok_body (m := 200) g D.S.kind D.S.nd (fun _ => rfl) 200 B.body (defBody d.st) hchk, ?_⟩
    have hpl : ps.length = B.np := by rw [r.length, hl, n1]
    have sr := sr_start (N := d.N) (F := B) sub r hpl n2 n3
    unfold run at e
    rw [eB] at e
    simp only [hpl, if_true] at e
    cases ho : evS (run T k) B.body (DD.start B ps) with
    | none => rw [ho] at e; cases e
    | some o =>
      rw [ho] at e
      refine ⟨G, H, G, DD.start B ps, o, ⟨sr, .refl sub, fun i qs a e1 e2 => ?_⟩, ho, ?_⟩
      · exfalso
        have hm := List.mem_of_getElem? e1
        simp only [DD.start, List.mem_append, List.mem_map, List.mem_replicate] at hm
        rcases hm with ⟨p, _, z⟩ | ⟨_, z⟩ <;> cases z
      · cases o with
        | rt q =>
          cases (show some q = some p from e)
          exact fun v G' H' x rv => hQ v G' H' x rv
        | nx ρ =>
          cases (show some PyData.none = some p from e)
          exact fun σ G' H' T' => hQ .non G' H' T'.ex rfl
        | bk ρ => cases (show (none : Option PV) = some p from e)
        | ct ρ => cases (show (none : Option PV) = some p from e)
end DD
set_option Elab.async false
set_option linter.all false
set_option maxRecDepth 100000
set_option maxHeartbeats 1000000
namespace DD
open PySem PySem.Spec PyProof.Rows L2

def flatB : List PV → List Value → Bool
  | [], [] => true
  | .str s :: ps, .str s' _ :: us => s == s' && PyData.strOk s && decide (s.length ≤ 16777216) && flatB ps us
  | .int i :: ps, .int j _ :: us => i == j && flatB ps us
  | _, _ => false
theorem flat_of {K : PySem.W.Frag} : ∀ (ps : List PV) {us : List Value}, flatB ps us = true → ∃ vs, Vals vs us ∧ ∀ G, RpL K G ps vs := by
  intro ps
  induction ps with
  | nil =>
    intro us h
    cases us with
    | nil => exact ⟨[], .nil, fun _ => rfl⟩
    | cons _ _ => cases h
  | cons p ps ih =>
    intro us h
    unfold flatB at h
    split at h
    · rename_i z; cases z
    · rename_i s ps' s' t us' z
      injection z with z1 z2
      subst z1 z2
      simp only [Bool.and_eq_true, beq_iff_eq, decide_eq_true_eq] at h
      obtain ⟨⟨⟨rfl, h1⟩, h2⟩, h3⟩ := h
      obtain ⟨vs, a, b⟩ := ih h3
      exact ⟨.str _ :: vs, .cons ⟨t, rfl⟩ a, fun G => ⟨.str _, vs, rfl, ⟨rfl, h1, h2⟩, b G⟩⟩
    · rename_i i ps' j t us' z
      injection z with z1 z2
      subst z1 z2
      simp only [Bool.and_eq_true, beq_iff_eq] at h
      obtain ⟨rfl, h3⟩ := h
      obtain ⟨vs, a, b⟩ := ih h3
      exact ⟨.int _ :: vs, .cons ⟨t, rfl⟩ a, fun G => ⟨.int _, vs, rfl, rfl, b G⟩⟩
    · cases h
theorem con_tup {K : PySem.W.Frag} {mg : Str → Option Value} {x : Str} {a : Addr} {od : Option Addr} {its : Array Value} {n : Nat} {sl : Array (Option Value)} {ps : List PV} (hm : mg x = some (.ref a))
    (hl : K.lookup a = some ⟨.type "tuple", od, .seq its n, sl⟩) (h : flatB ps its.toList = true) (hs : its.size ≤ sizeLine) : ∃ u v, mg x = some u ∧ RelV v u ∧ ∀ G, Rp K G (.tuple ps) v := by
  obtain ⟨vs, r, b⟩ := flat_of (K := K) _ h
  exact ⟨.ref a, .ref a, hm, rfl, fun G => ⟨a, vs, rfl, .inr ⟨_, its, n, hl, rfl, rfl, hs, r⟩, b G⟩⟩
theorem con_str {K : PySem.W.Frag} {mg : Str → Option Value} {x s : Str} {t : Tok} (hm : mg x = some (.str s t)) (h1 : PyData.strOk s = true) (h2 : s.length ≤ 16777216) : ∃ u v, mg x = some u ∧ RelV v u ∧ ∀ G, Rp K G (.str s) v :=
  ⟨_, .str s, hm, ⟨t, rfl⟩, fun G => ⟨rfl, h1, h2⟩⟩
theorem con_int {K : PySem.W.Frag} {mg : Str → Option Value} {x : Str} {i : Int} {t : Tok} (hm : mg x = some (.int i t)) : ∃ u v, mg x = some u ∧ RelV v u ∧ ∀ G, Rp K G (.int i) v :=
  ⟨_, .int i, hm, ⟨t, rfl⟩, fun G => rfl⟩
theorem rpL_ints {K : PySem.W.Frag} {G : Hp} : ∀ ns : List Int, RpL K G (ns.map .int) (ns.map V.int)
  | [] => rfl
  | n :: ns => ⟨_, _, rfl, rfl, rpL_ints ns⟩
/-- the law's promise from the answer over values -/
theorem sp_law {K : PySem.W.Frag} {r : List PV → Option PV} {H : Hp} {a : Addr} {ns : List Int} (h : r [.list (ns.map .int)] = some (.bool true)) (hS : SqL K H a (ns.map V.int)) :
    spD K 1 r [.ref a] H (fun v _ => v = .bl true) fun _ _ _ => False :=
  ⟨rfl, H, [.list (ns.map .int)], _, .refl _, ⟨.ref a, [], rfl, ⟨a, _, rfl, hS, rpL_ints ns⟩, rfl⟩, h, fun v G' H' x r => r⟩
end DD
namespace K02
open PySem DD
def tab : Tab := fun i => List.lookup i [(31, f31), (32, f32), (33, f33), (16, f16), (17, f17), (18, f18), (19, f19), (20, f20), (21, f21), (34, f34), (35, f35), (36, f36)]
end K02
set_option Elab.async false
set_option linter.all false
set_option maxRecDepth 100000
set_option maxHeartbeats 4000000
namespace K02
open PySem PySem.Spec PyProof.Rows L2 DD
def top (i : Nat) : Stmt := PySem.Challenge.pw_twonamed_k02_written.main.body.getD i (.Pass ⟨0, 0, 0, 0⟩)
def Gam : Info := {
  fns := [("written_form", 31, 1), ("written_demand", 32, 1), ("written", 33, 1), ("_law_cell_at", 16, 2), ("_law_mixed", 17, 2), ("_law_drawn", 18, 2), ("_law_form", 19, 2), ("_law_demand", 20, 2), ("_law_row", 21, 2), ("_law_words", 34, 1), ("_law_text", 35, 1), ("law", 36, 1)]
  consts := [("MARK_WORDS", .tuple [.str "a", .str "b"]), ("ARROW_WORD", .str "to")]
  blts := ["isinstance", "len", "range", "str"] }
abbrev d31 : DI := ⟨"written_form", 31, top 3, ["form", "word"], ["form"]⟩
theorem s31 : FnScope d31.N d31.ps (defScope d31.st) := ⟨rfl, rfl, rfl, by decide +kernel, rfl, by decide +kernel, by decide +kernel⟩
theorem c31 : ∃ B, tab d31.id = some B ∧ d31.ps.length = B.np ∧ d31.N.length = B.ns ∧ B.np ≤ B.ns ∧ chkBody Gam 200 200 d31.N (defScope d31.st).names B.body (defBody d31.st) = true := ⟨f31, rfl, rfl, rfl, by decide, by decide +kernel⟩
abbrev d32 : DI := ⟨"written_demand", 32, top 4, ["demand"], ["demand"]⟩
theorem s32 : FnScope d32.N d32.ps (defScope d32.st) := ⟨rfl, rfl, rfl, by decide +kernel, rfl, by decide +kernel, by decide +kernel⟩
theorem c32 : ∃ B, tab d32.id = some B ∧ d32.ps.length = B.np ∧ d32.N.length = B.ns ∧ B.np ≤ B.ns ∧ chkBody Gam 200 200 d32.N (defScope d32.st).names B.body (defBody d32.st) = true := ⟨f32, rfl, rfl, rfl, by decide, by decide +kernel⟩
abbrev d33 : DI := ⟨"written", 33, top 5, ["row"], ["row"]⟩
theorem s33 : FnScope d33.N d33.ps (defScope d33.st) := ⟨rfl, rfl, rfl, by decide +kernel, rfl, by decide +kernel, by decide +kernel⟩
theorem c33 : ∃ B, tab d33.id = some B ∧ d33.ps.length = B.np ∧ d33.N.length = B.ns ∧ B.np ≤ B.ns ∧ chkBody Gam 200 200 d33.N (defScope d33.st).names B.body (defBody d33.st) = true := ⟨f33, rfl, rfl, rfl, by decide, by decide +kernel⟩
abbrev d16 : DI := ⟨"_law_cell_at", 16, top 7, ["_law_script", "_law_k"], ["_law_script", "_law_k"]⟩
theorem s16 : FnScope d16.N d16.ps (defScope d16.st) := ⟨rfl, rfl, rfl, by decide +kernel, rfl, by decide +kernel, by decide +kernel⟩
theorem c16 : ∃ B, tab d16.id = some B ∧ d16.ps.length = B.np ∧ d16.N.length = B.ns ∧ B.np ≤ B.ns ∧ chkBody Gam 200 200 d16.N (defScope d16.st).names B.body (defBody d16.st) = true := ⟨f16, rfl, rfl, rfl, by decide, by decide +kernel⟩
abbrev d17 : DI := ⟨"_law_mixed", 17, top 8, ["_law_script", "_law_k", "_law_drawn_here"], ["_law_script", "_law_k"]⟩
theorem s17 : FnScope d17.N d17.ps (defScope d17.st) := ⟨rfl, rfl, rfl, by decide +kernel, rfl, by decide +kernel, by decide +kernel⟩
theorem c17 : ∃ B, tab d17.id = some B ∧ d17.ps.length = B.np ∧ d17.N.length = B.ns ∧ B.np ≤ B.ns ∧ chkBody Gam 200 200 d17.N (defScope d17.st).names B.body (defBody d17.st) = true := ⟨f17, rfl, rfl, rfl, by decide, by decide +kernel⟩
abbrev d18 : DI := ⟨"_law_drawn", 18, top 9, ["_law_number", "_law_k", "_law_drawn_here"], ["_law_number", "_law_k"]⟩
theorem s18 : FnScope d18.N d18.ps (defScope d18.st) := ⟨rfl, rfl, rfl, by decide +kernel, rfl, by decide +kernel, by decide +kernel⟩
theorem c18 : ∃ B, tab d18.id = some B ∧ d18.ps.length = B.np ∧ d18.N.length = B.ns ∧ B.np ≤ B.ns ∧ chkBody Gam 200 200 d18.N (defScope d18.st).names B.body (defBody d18.st) = true := ⟨f18, rfl, rfl, rfl, by decide, by decide +kernel⟩
abbrev d19 : DI := ⟨"_law_form", 19, top 10, ["_law_number", "_law_deep", "_law_kind", "_law_some", "_law_one", "_law_other"], ["_law_number", "_law_deep"]⟩
theorem s19 : FnScope d19.N d19.ps (defScope d19.st) := ⟨rfl, rfl, rfl, by decide +kernel, rfl, by decide +kernel, by decide +kernel⟩
theorem c19 : ∃ B, tab d19.id = some B ∧ d19.ps.length = B.np ∧ d19.N.length = B.ns ∧ B.np ≤ B.ns ∧ chkBody Gam 200 200 d19.N (defScope d19.st).names B.body (defBody d19.st) = true := ⟨f19, rfl, rfl, rfl, by decide, by decide +kernel⟩
abbrev d20 : DI := ⟨"_law_demand", 20, top 11, ["_law_number", "_law_deep", "_law_one", "_law_other"], ["_law_number", "_law_deep"]⟩
theorem s20 : FnScope d20.N d20.ps (defScope d20.st) := ⟨rfl, rfl, rfl, by decide +kernel, rfl, by decide +kernel, by decide +kernel⟩
theorem c20 : ∃ B, tab d20.id = some B ∧ d20.ps.length = B.np ∧ d20.N.length = B.ns ∧ B.np ≤ B.ns ∧ chkBody Gam 200 200 d20.N (defScope d20.st).names B.body (defBody d20.st) = true := ⟨f20, rfl, rfl, rfl, by decide, by decide +kernel⟩
abbrev d21 : DI := ⟨"_law_row", 21, top 12, ["_law_number", "_law_most", "_law_found", "_law_k", "_law_demand_here", "_law_marks"], ["_law_number", "_law_most"]⟩
theorem s21 : FnScope d21.N d21.ps (defScope d21.st) := ⟨rfl, rfl, rfl, by decide +kernel, rfl, by decide +kernel, by decide +kernel⟩
theorem c21 : ∃ B, tab d21.id = some B ∧ d21.ps.length = B.np ∧ d21.N.length = B.ns ∧ B.np ≤ B.ns ∧ chkBody Gam 200 200 d21.N (defScope d21.st).names B.body (defBody d21.st) = true := ⟨f21, rfl, rfl, rfl, by decide, by decide +kernel⟩
abbrev d34 : DI := ⟨"_law_words", 34, top 13, ["_law_form_here"], ["_law_form_here"]⟩
theorem s34 : FnScope d34.N d34.ps (defScope d34.st) := ⟨rfl, rfl, rfl, by decide +kernel, rfl, by decide +kernel, by decide +kernel⟩
theorem c34 : ∃ B, tab d34.id = some B ∧ d34.ps.length = B.np ∧ d34.N.length = B.ns ∧ B.np ≤ B.ns ∧ chkBody Gam 200 200 d34.N (defScope d34.st).names B.body (defBody d34.st) = true := ⟨f34, rfl, rfl, rfl, by decide, by decide +kernel⟩
abbrev d35 : DI := ⟨"_law_text", 35, top 14, ["_law_row_here"], ["_law_row_here"]⟩
theorem s35 : FnScope d35.N d35.ps (defScope d35.st) := ⟨rfl, rfl, rfl, by decide +kernel, rfl, by decide +kernel, by decide +kernel⟩
theorem c35 : ∃ B, tab d35.id = some B ∧ d35.ps.length = B.np ∧ d35.N.length = B.ns ∧ B.np ≤ B.ns ∧ chkBody Gam 200 200 d35.N (defScope d35.st).names B.body (defBody d35.st) = true := ⟨f35, rfl, rfl, rfl, by decide, by decide +kernel⟩
abbrev d36 : DI := ⟨"law", 36, top 15, ["_law_script", "_law_row_here"], ["_law_script"]⟩
theorem s36 : FnScope d36.N d36.ps (defScope d36.st) := ⟨rfl, rfl, rfl, by decide +kernel, rfl, by decide +kernel, by decide +kernel⟩
theorem c36 : ∃ B, tab d36.id = some B ∧ d36.ps.length = B.np ∧ d36.N.length = B.ns ∧ B.np ≤ B.ns ∧ chkBody Gam 200 200 d36.N (defScope d36.st).names B.body (defBody d36.st) = true := ⟨f36, rfl, rfl, rfl, by decide, by decide +kernel⟩
theorem all_mk {l : PySem.W.OpenLaw} {w : World} {K : PySem.W.Frag} {h : Heap} {mg : Str → Option Value} {fa : Addr} (X : K.In h) (G : h.Ns mainGlobals mg) (hfa : mg "law" = some (.ref fa))
    {f31 : Addr} {od31 an31 : Option Addr} {sl31 : Array (Option Value)} {oc31 kV31 dc31 pm31 cd31 ct31 : Value}
    (a31 : PySem.W.nsIn K mainGlobals "written_form" = some (some (.ref f31))) (l31 : K.lookup f31 = some ⟨oc31, od31, .func (PySem.W.fnOf "written_form" "written_form" (defArgs (top 3)) (defBody (top 3)) (defScope (top 3)) .none kV31 dc31 pm31 an31 cd31 ct31), sl31⟩) (c31 : PySem.W.codeIn K cd31 "written_form" = true) (k31 : PySem.W.keepIn K (.ref f31) = true)
    {f32 : Addr} {od32 an32 : Option Addr} {sl32 : Array (Option Value)} {oc32 kV32 dc32 pm32 cd32 ct32 : Value}
    (a32 : PySem.W.nsIn K mainGlobals "written_demand" = some (some (.ref f32))) (l32 : K.lookup f32 = some ⟨oc32, od32, .func (PySem.W.fnOf "written_demand" "written_demand" (defArgs (top 4)) (defBody (top 4)) (defScope (top 4)) .none kV32 dc32 pm32 an32 cd32 ct32), sl32⟩) (c32 : PySem.W.codeIn K cd32 "written_demand" = true) (k32 : PySem.W.keepIn K (.ref f32) = true)
    {f33 : Addr} {od33 an33 : Option Addr} {sl33 : Array (Option Value)} {oc33 kV33 dc33 pm33 cd33 ct33 : Value}
    (a33 : PySem.W.nsIn K mainGlobals "written" = some (some (.ref f33))) (l33 : K.lookup f33 = some ⟨oc33, od33, .func (PySem.W.fnOf "written" "written" (defArgs (top 5)) (defBody (top 5)) (defScope (top 5)) .none kV33 dc33 pm33 an33 cd33 ct33), sl33⟩) (c33 : PySem.W.codeIn K cd33 "written" = true) (k33 : PySem.W.keepIn K (.ref f33) = true)
    {f16 : Addr} {od16 an16 : Option Addr} {sl16 : Array (Option Value)} {oc16 kV16 dc16 pm16 cd16 ct16 : Value}
    (a16 : PySem.W.nsIn K mainGlobals "_law_cell_at" = some (some (.ref f16))) (l16 : K.lookup f16 = some ⟨oc16, od16, .func (PySem.W.fnOf "_law_cell_at" "_law_cell_at" (defArgs (top 7)) (defBody (top 7)) (defScope (top 7)) .none kV16 dc16 pm16 an16 cd16 ct16), sl16⟩) (c16 : PySem.W.codeIn K cd16 "_law_cell_at" = true) (k16 : PySem.W.keepIn K (.ref f16) = true)
    {f17 : Addr} {od17 an17 : Option Addr} {sl17 : Array (Option Value)} {oc17 kV17 dc17 pm17 cd17 ct17 : Value}
    (a17 : PySem.W.nsIn K mainGlobals "_law_mixed" = some (some (.ref f17))) (l17 : K.lookup f17 = some ⟨oc17, od17, .func (PySem.W.fnOf "_law_mixed" "_law_mixed" (defArgs (top 8)) (defBody (top 8)) (defScope (top 8)) .none kV17 dc17 pm17 an17 cd17 ct17), sl17⟩) (c17 : PySem.W.codeIn K cd17 "_law_mixed" = true) (k17 : PySem.W.keepIn K (.ref f17) = true)
    {f18 : Addr} {od18 an18 : Option Addr} {sl18 : Array (Option Value)} {oc18 kV18 dc18 pm18 cd18 ct18 : Value}
    (a18 : PySem.W.nsIn K mainGlobals "_law_drawn" = some (some (.ref f18))) (l18 : K.lookup f18 = some ⟨oc18, od18, .func (PySem.W.fnOf "_law_drawn" "_law_drawn" (defArgs (top 9)) (defBody (top 9)) (defScope (top 9)) .none kV18 dc18 pm18 an18 cd18 ct18), sl18⟩) (c18 : PySem.W.codeIn K cd18 "_law_drawn" = true) (k18 : PySem.W.keepIn K (.ref f18) = true)
    {f19 : Addr} {od19 an19 : Option Addr} {sl19 : Array (Option Value)} {oc19 kV19 dc19 pm19 cd19 ct19 : Value}
    (a19 : PySem.W.nsIn K mainGlobals "_law_form" = some (some (.ref f19))) (l19 : K.lookup f19 = some ⟨oc19, od19, .func (PySem.W.fnOf "_law_form" "_law_form" (defArgs (top 10)) (defBody (top 10)) (defScope (top 10)) .none kV19 dc19 pm19 an19 cd19 ct19), sl19⟩) (c19 : PySem.W.codeIn K cd19 "_law_form" = true) (k19 : PySem.W.keepIn K (.ref f19) = true)
    {f20 : Addr} {od20 an20 : Option Addr} {sl20 : Array (Option Value)} {oc20 kV20 dc20 pm20 cd20 ct20 : Value}
    (a20 : PySem.W.nsIn K mainGlobals "_law_demand" = some (some (.ref f20))) (l20 : K.lookup f20 = some ⟨oc20, od20, .func (PySem.W.fnOf "_law_demand" "_law_demand" (defArgs (top 11)) (defBody (top 11)) (defScope (top 11)) .none kV20 dc20 pm20 an20 cd20 ct20), sl20⟩) (c20 : PySem.W.codeIn K cd20 "_law_demand" = true) (k20 : PySem.W.keepIn K (.ref f20) = true)
    {f21 : Addr} {od21 an21 : Option Addr} {sl21 : Array (Option Value)} {oc21 kV21 dc21 pm21 cd21 ct21 : Value}
    (a21 : PySem.W.nsIn K mainGlobals "_law_row" = some (some (.ref f21))) (l21 : K.lookup f21 = some ⟨oc21, od21, .func (PySem.W.fnOf "_law_row" "_law_row" (defArgs (top 12)) (defBody (top 12)) (defScope (top 12)) .none kV21 dc21 pm21 an21 cd21 ct21), sl21⟩) (c21 : PySem.W.codeIn K cd21 "_law_row" = true) (k21 : PySem.W.keepIn K (.ref f21) = true)
    {f34 : Addr} {od34 an34 : Option Addr} {sl34 : Array (Option Value)} {oc34 kV34 dc34 pm34 cd34 ct34 : Value}
    (a34 : PySem.W.nsIn K mainGlobals "_law_words" = some (some (.ref f34))) (l34 : K.lookup f34 = some ⟨oc34, od34, .func (PySem.W.fnOf "_law_words" "_law_words" (defArgs (top 13)) (defBody (top 13)) (defScope (top 13)) .none kV34 dc34 pm34 an34 cd34 ct34), sl34⟩) (c34 : PySem.W.codeIn K cd34 "_law_words" = true) (k34 : PySem.W.keepIn K (.ref f34) = true)
    {f35 : Addr} {od35 an35 : Option Addr} {sl35 : Array (Option Value)} {oc35 kV35 dc35 pm35 cd35 ct35 : Value}
    (a35 : PySem.W.nsIn K mainGlobals "_law_text" = some (some (.ref f35))) (l35 : K.lookup f35 = some ⟨oc35, od35, .func (PySem.W.fnOf "_law_text" "_law_text" (defArgs (top 14)) (defBody (top 14)) (defScope (top 14)) .none kV35 dc35 pm35 an35 cd35 ct35), sl35⟩) (c35 : PySem.W.codeIn K cd35 "_law_text" = true) (k35 : PySem.W.keepIn K (.ref f35) = true)
    {f36 : Addr} {od36 an36 : Option Addr} {sl36 : Array (Option Value)} {oc36 kV36 dc36 pm36 cd36 ct36 : Value}
    (a36 : PySem.W.nsIn K mainGlobals "law" = some (some (.ref f36))) (l36 : K.lookup f36 = some ⟨oc36, od36, .func (PySem.W.fnOf "law" "law" (defArgs (top 15)) (defBody (top 15)) (defScope (top 15)) .none kV36 dc36 pm36 an36 cd36 ct36), sl36⟩) (c36 : PySem.W.codeIn K cd36 "law" = true) (k36 : PySem.W.keepIn K (.ref f36) = true)
    {ca0 : Addr} {co0 : Option Addr} {ci0 : Array Value} {cn0 : Nat} {cs0 : Array (Option Value)} (u0 : PySem.W.nsIn K mainGlobals "MARK_WORDS" = some (some (.ref ca0))) (v0 : K.lookup ca0 = some ⟨.type "tuple", co0, .seq ci0 cn0, cs0⟩) (w0 : flatB [.str "a", .str "b"] ci0.toList = true) (x0 : ci0.size ≤ sizeLine)
    {ct1 : Tok} (u1 : PySem.W.nsIn K mainGlobals "ARROW_WORD" = some (some (.str "to" ct1)))
    (z0 : PySem.W.nsIn K mainGlobals "isinstance" = some none)
    (z1 : PySem.W.nsIn K mainGlobals "len" = some none)
    (z2 : PySem.W.nsIn K mainGlobals "range" = some none)
    (z3 : PySem.W.nsIn K mainGlobals "str" = some none)
    : ∃ fd : FuncData, (∀ (s : Shared) (v : Value), BindsTo s fd ⟨[v], []⟩ [("_law_script", v)]) ∧ ∀ base : Heap, K.In base → base.Ns mainGlobals mg → FnOk l.prog w K mg base CX0 30 fa fd ["_law_script"] (spD K 1 (run tab 30 36)) := by
  have e := hfa.symm.trans (PySem.W.mg_of X G a36)
  cases e
  have F31 := fun_mk (st := top 3) l31 c31 k31
  have D31 : Def1 K mg tab Gam d31 _ _ := ⟨F31, F31.binds (ps := ["form"]) fun _ _ _ _ _ _ us hl => match us, hl with | [_], _ => rfl, PySem.W.mg_of X G a31, s31, K02.c31⟩
  have F32 := fun_mk (st := top 4) l32 c32 k32
  have D32 : Def1 K mg tab Gam d32 _ _ := ⟨F32, F32.binds (ps := ["demand"]) fun _ _ _ _ _ _ us hl => match us, hl with | [_], _ => rfl, PySem.W.mg_of X G a32, s32, K02.c32⟩
  have F33 := fun_mk (st := top 5) l33 c33 k33
  have D33 : Def1 K mg tab Gam d33 _ _ := ⟨F33, F33.binds (ps := ["row"]) fun _ _ _ _ _ _ us hl => match us, hl with | [_], _ => rfl, PySem.W.mg_of X G a33, s33, K02.c33⟩
  have F16 := fun_mk (st := top 7) l16 c16 k16
  have D16 : Def1 K mg tab Gam d16 _ _ := ⟨F16, F16.binds (ps := ["_law_script", "_law_k"]) fun _ _ _ _ _ _ us hl => match us, hl with | [_, _], _ => rfl, PySem.W.mg_of X G a16, s16, K02.c16⟩
  have F17 := fun_mk (st := top 8) l17 c17 k17
  have D17 : Def1 K mg tab Gam d17 _ _ := ⟨F17, F17.binds (ps := ["_law_script", "_law_k"]) fun _ _ _ _ _ _ us hl => match us, hl with | [_, _], _ => rfl, PySem.W.mg_of X G a17, s17, K02.c17⟩
  have F18 := fun_mk (st := top 9) l18 c18 k18
  have D18 : Def1 K mg tab Gam d18 _ _ := ⟨F18, F18.binds (ps := ["_law_number", "_law_k"]) fun _ _ _ _ _ _ us hl => match us, hl with | [_, _], _ => rfl, PySem.W.mg_of X G a18, s18, K02.c18⟩
  have F19 := fun_mk (st := top 10) l19 c19 k19
  have D19 : Def1 K mg tab Gam d19 _ _ := ⟨F19, F19.binds (ps := ["_law_number", "_law_deep"]) fun _ _ _ _ _ _ us hl => match us, hl with | [_, _], _ => rfl, PySem.W.mg_of X G a19, s19, K02.c19⟩
  have F20 := fun_mk (st := top 11) l20 c20 k20
  have D20 : Def1 K mg tab Gam d20 _ _ := ⟨F20, F20.binds (ps := ["_law_number", "_law_deep"]) fun _ _ _ _ _ _ us hl => match us, hl with | [_, _], _ => rfl, PySem.W.mg_of X G a20, s20, K02.c20⟩
  have F21 := fun_mk (st := top 12) l21 c21 k21
  have D21 : Def1 K mg tab Gam d21 _ _ := ⟨F21, F21.binds (ps := ["_law_number", "_law_most"]) fun _ _ _ _ _ _ us hl => match us, hl with | [_, _], _ => rfl, PySem.W.mg_of X G a21, s21, K02.c21⟩
  have F34 := fun_mk (st := top 13) l34 c34 k34
  have D34 : Def1 K mg tab Gam d34 _ _ := ⟨F34, F34.binds (ps := ["_law_form_here"]) fun _ _ _ _ _ _ us hl => match us, hl with | [_], _ => rfl, PySem.W.mg_of X G a34, s34, K02.c34⟩
  have F35 := fun_mk (st := top 14) l35 c35 k35
  have D35 : Def1 K mg tab Gam d35 _ _ := ⟨F35, F35.binds (ps := ["_law_row_here"]) fun _ _ _ _ _ _ us hl => match us, hl with | [_], _ => rfl, PySem.W.mg_of X G a35, s35, K02.c35⟩
  have F36 := fun_mk (st := top 15) l36 c36 k36
  have D36 : Def1 K mg tab Gam d36 _ _ := ⟨F36, F36.binds (ps := ["_law_script"]) fun _ _ _ _ _ _ us hl => match us, hl with | [_], _ => rfl, PySem.W.mg_of X G a36, s36, K02.c36⟩
  refine ⟨PySem.W.fnOf "law" "law" (defArgs (top 15)) (defBody (top 15)) (defScope (top 15)) .none kV36 dc36 pm36 an36 cd36 ct36, fun s v => .of_eq rfl, fun base _ _ => ?_⟩
  refine all_ok (P := l.prog) (w := w) (base := base) (Gam := Gam) (fun x id n hm => ?_) (fun x p hm => ?_) (fun x hm => ?_) 30 d36 _ _ D36
  · simp only [Gam, List.mem_cons, List.mem_nil_iff, List.not_mem_nil, or_false, Prod.mk.injEq] at hm
    rcases hm with ⟨rfl, rfl, rfl⟩ | ⟨rfl, rfl, rfl⟩ | ⟨rfl, rfl, rfl⟩ | ⟨rfl, rfl, rfl⟩ | ⟨rfl, rfl, rfl⟩ | ⟨rfl, rfl, rfl⟩ | ⟨rfl, rfl, rfl⟩ | ⟨rfl, rfl, rfl⟩ | ⟨rfl, rfl, rfl⟩ | ⟨rfl, rfl, rfl⟩ | ⟨rfl, rfl, rfl⟩ | ⟨rfl, rfl, rfl⟩
    · exact ⟨d31, _, _, rfl, rfl, rfl, D31⟩
    · exact ⟨d32, _, _, rfl, rfl, rfl, D32⟩
    · exact ⟨d33, _, _, rfl, rfl, rfl, D33⟩
    · exact ⟨d16, _, _, rfl, rfl, rfl, D16⟩
    · exact ⟨d17, _, _, rfl, rfl, rfl, D17⟩
    · exact ⟨d18, _, _, rfl, rfl, rfl, D18⟩
    · exact ⟨d19, _, _, rfl, rfl, rfl, D19⟩
    · exact ⟨d20, _, _, rfl, rfl, rfl, D20⟩
    · exact ⟨d21, _, _, rfl, rfl, rfl, D21⟩
    · exact ⟨d34, _, _, rfl, rfl, rfl, D34⟩
    · exact ⟨d35, _, _, rfl, rfl, rfl, D35⟩
    · exact ⟨d36, _, _, rfl, rfl, rfl, D36⟩
  · simp only [Gam, List.mem_cons, List.mem_nil_iff, List.not_mem_nil, or_false, Prod.mk.injEq] at hm
    rcases hm with ⟨rfl, rfl⟩ | ⟨rfl, rfl⟩
    · exact con_tup (PySem.W.mg_of X G u0) v0 w0 x0
    · exact con_str (PySem.W.mg_of X G u1) (by decide +kernel) (by decide +kernel)
  · simp only [Gam, List.mem_cons, List.mem_nil_iff, List.not_mem_nil, or_false] at hm
    rcases hm with rfl | rfl | rfl | rfl
    · exact PySem.W.mg_none_of X G z0
    · exact PySem.W.mg_none_of X G z1
    · exact PySem.W.mg_none_of X G z2
    · exact PySem.W.mg_none_of X G z3
theorem walk {l : PySem.W.OpenLaw} {n : Nat} {q : Program} {loose : List Str} {XP : (Str → Option Value) → Heap → Prop} {YP : World → Heap → Prop} {d : DefRec} {K : Params → PySem.W.Frag} (hn : l.most = some n) (hn2 : n ≤ sizeLine) (hdf : d.params.defaults = [])
    (hY : ∀ (w : World) (h : Heap), YP w h → (K w.params).In h)
    (F : ∀ (w : World) (mg : Str → Option Value) (fa : Addr) (h : Heap), (K w.params).In h → h.Ns mainGlobals mg → mg d.name = some (.ref fa) →
      ∃ fd : FuncData, (∀ (s : Shared) (u : Value), BindsTo s fd ⟨[u], []⟩ [("_law_script", u)]) ∧ ∀ base : Heap, (K w.params).In base → base.Ns mainGlobals mg → FnOk l.prog w (K w.params) mg base CX0 30 fa fd ["_law_script"] (spD (K w.params) 1 (run tab 30 36))) :
    PySem.W.WalkO q loose XP YP l.row.toRowW d [] (fun f vs => PySem.call f vs) :=
  L2.walk_of (n := n) (k := 30) (x := "_law_script") (CX := fun _ => CX0) (sp := fun w => spD (K w.params) 1 (run tab 30 36)) hn hn2 hdf ⟨rfl, by decide, by decide⟩ hY F (fun _ _ a ns hl _ hS => sp_law (DD.law02 (T := tab) rfl rfl rfl rfl rfl rfl rfl rfl rfl rfl rfl rfl ns) hS) fun _ _ _ _ _ z => z
end K02
open PySem PySem.W PyProof.Rows
set_option maxRecDepth 100000 in
set_option maxHeartbeats 0 in
theorem PySem.Challenge.cw_twonamed_k02_written_holds : PySem.Challenge.rw_twonamed_k02_written.Holds := by
  w_on; o_law; k_head; (case hw => w_witness2)
  k_fill
  refine K02.walk (l := PySem.Challenge.rw_twonamed_k02_written) rfl (by decide) rfl (fun w h Y => PySem.W.kIn_of Y) ?F
  case F =>
    intro w mg fa h KX G hmg
    refine' K02.all_mk KX G hmg ?a31 ?l31 ?c31 ?k31 ?a32 ?l32 ?c32 ?k32 ?a33 ?l33 ?c33 ?k33 ?a16 ?l16 ?c16 ?k16 ?a17 ?l17 ?c17 ?k17 ?a18 ?l18 ?c18 ?k18 ?a19 ?l19 ?c19 ?k19 ?a20 ?l20 ?c20 ?k20 ?a21 ?l21 ?c21 ?k21 ?a34 ?l34 ?c34 ?k34 ?a35 ?l35 ?c35 ?k35 ?a36 ?l36 ?c36 ?k36 ?u0 ?v0 ?w0 ?x0 ?u1 ?z0 ?z1 ?z2 ?z3
    (case a31 => k_is)
    (case l31 => k_is)
    (case c31 => k_is)
    (case k31 => k_is)
    (case a32 => k_is)
    (case l32 => k_is)
    (case c32 => k_is)
    (case k32 => k_is)
    (case a33 => k_is)
    (case l33 => k_is)
    (case c33 => k_is)
    (case k33 => k_is)
    (case a16 => k_is)
    (case l16 => k_is)
    (case c16 => k_is)
    (case k16 => k_is)
    (case a17 => k_is)
    (case l17 => k_is)
    (case c17 => k_is)
    (case k17 => k_is)
    (case a18 => k_is)
    (case l18 => k_is)
    (case c18 => k_is)
    (case k18 => k_is)
    (case a19 => k_is)
    (case l19 => k_is)
    (case c19 => k_is)
    (case k19 => k_is)
    (case a20 => k_is)
    (case l20 => k_is)
    (case c20 => k_is)
    (case k20 => k_is)
    (case a21 => k_is)
    (case l21 => k_is)
    (case c21 => k_is)
    (case k21 => k_is)
    (case a34 => k_is)
    (case l34 => k_is)
    (case c34 => k_is)
    (case k34 => k_is)
    (case a35 => k_is)
    (case l35 => k_is)
    (case c35 => k_is)
    (case k35 => k_is)
    (case a36 => k_is)
    (case l36 => k_is)
    (case c36 => k_is)
    (case k36 => k_is)
    (case u0 => k_is)
    (case v0 => k_is)
    (case w0 => decide +kernel)
    (case x0 => decide +kernel)
    (case u1 => k_is)
    (case z0 => k_is)
    (case z1 => k_is)
    (case z2 => k_is)
    (case z3 => k_is)
